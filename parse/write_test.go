package parse_test

import (
	"strconv"
	"strings"
	"testing"

	"guise/api"
	"guise/lex"
	"guise/tree"
)

// writer writes a right tree as a text, by chance with all that changes no tree: blanks, remarks, ENDs, commas, brackets. It
// makes the tree again, with the places where it wrote the nodes: first as numbers of tokens, as what is left out stands where
// the next token will.
type writer struct {
	grower
	out    []byte
	places []int  // of the tokens so far
	last   string // the last token; empty: none, or an END
}

// written is a text, and the tree that it must be read as.
func written(g grower, as form, n api.Node) (string, api.Node) {
	w := &writer{grower: g}
	switch as.name {
	case "Program":
		w.ends()
		n.Kids = w.lines(n.Kids, w.declaration)
	case "Statements":
		w.ends()
		n.Kids = w.lines(n.Kids, w.statement)
	default:
		n = w.expr(n, 1, false)
		w.ends()
	}
	w.out = append(w.out, oneOf(g.Rand, "", " ", "\t ", " // a remark", "//")...)
	n = w.placed(n)
	if as.name == "Statements" {
		n.At = 0
	}
	return string(w.out), n
}

// placed puts places for the numbers of tokens.
func (w *writer) placed(n api.Node) api.Node {
	if n.At < len(w.places) {
		n.At = w.places[n.At]
	} else {
		n.At = len(w.out)
	}
	for i, kid := range n.Kids {
		n.Kids[i] = w.placed(kid)
	}
	return n
}

// triggers: a line feed behind the last token would be an END.
func (w *writer) triggers() bool {
	tokens, _ := lex.Scan(w.last)
	return len(tokens) == 2
}

// apart: two tokens that may stand right behind each other.
func apart(a, b string) bool {
	tokens, err := lex.Scan(a + b)
	return err == nil && len(tokens) > 1 && tokens[1].At == len(a)
}

func (w *writer) gap(next string) string {
	gaps := []string{" ", " ", "\t", "  "}
	if w.last == "" || apart(w.last, next) {
		gaps = append(gaps, "", "", "")
	}
	if !w.triggers() {
		gaps = append(gaps, "\n", " // a remark;\n\t", "\n\n")
	}
	return oneOf(w.Rand, gaps...)
}

// next is the number of the token that comes next.
func (w *writer) next() int { return len(w.places) }

func (w *writer) put(token string) int {
	w.out = append(w.out, w.gap(token)...)
	w.places = append(w.places, len(w.out))
	w.out = append(w.out, token...)
	w.last = token
	return len(w.places) - 1
}

func (w *writer) leaf(n api.Node, token string) api.Node {
	n.At = w.put(token)
	return n
}

func (w *writer) end() {
	ends := []string{";", " ;"}
	if w.triggers() {
		ends = append(ends, "\n", "\n", " // a remark\n")
	}
	w.out = append(w.out, oneOf(w.Rand, ends...)...)
	w.places = append(w.places, len(w.out)-1)
	w.last = ""
}

func (w *writer) ends() {
	for w.IntN(4) == 0 {
		w.end()
	}
}

// lines writes parts with ENDs between, and maybe behind.
func (w *writer) lines(parts []api.Node, write func(api.Node) api.Node) []api.Node {
	var out []api.Node
	for i, part := range parts {
		if i > 0 {
			w.end()
			w.ends()
		}
		out = append(out, write(part))
	}
	w.ends()
	return out
}

// list writes parts with commas between, and maybe behind.
func (w *writer) list(parts []api.Node, write func(api.Node) api.Node) []api.Node {
	var out []api.Node
	for i, part := range parts {
		if i > 0 {
			w.put(",")
		}
		out = append(out, write(part))
	}
	if len(parts) > 0 && w.IntN(4) == 0 {
		w.put(",")
	}
	return out
}

func (w *writer) none() api.Node { return api.Node{Kind: api.NNone, At: w.next()} }

func (w *writer) name(n api.Node) api.Node { return w.leaf(n, n.Text) }

func (w *writer) typed(n api.Node) api.Node {
	if n.Kind == api.NPointer {
		at := w.put("*")
		return api.Node{Kind: api.NPointer, At: at, Kids: []api.Node{w.name(n.Kids[0])}}
	}
	return w.name(n)
}

func (w *writer) declaration(n api.Node) api.Node {
	kids := n.Kids
	n.At = w.next()
	switch n.Kind {
	case api.NType:
		w.all("type", n.Text, "=")
		n.Kids = []api.Node{w.name(kids[0])}
	case api.NStruct, api.NProtocol:
		if n.Kind == api.NStruct {
			w.all("type", n.Text, "struct", "{")
		} else {
			w.all("protocol", n.Text, "{")
		}
		w.ends()
		n.Kids = w.lines(kids, w.member(n.Kind))
		w.put("}")
	case api.NFunc:
		w.all("func", n.Text)
		n.Kids = []api.Node{w.params(kids[0]), w.block(kids[1])}
	case api.NMethodDecl:
		w.all("func", "(")
		receiver := w.leaf(kids[0], kids[0].Text)
		receiver.Kids = []api.Node{w.typed(kids[0].Kids[0])}
		w.all(")", n.Text)
		n.Kids = []api.Node{receiver, w.params(kids[1]), w.block(kids[2])}
	case api.NVar:
		w.all("var", n.Text, "=")
		n.Kids = []api.Node{w.whole(kids[0])}
	}
	return n
}

func (w *writer) all(tokens ...string) {
	for _, token := range tokens {
		w.put(token)
	}
}

func (w *writer) member(within int) func(api.Node) api.Node {
	return func(n api.Node) api.Node {
		n.At = w.next()
		switch {
		case n.Kind == api.NMethod:
			w.all(n.Text, "(", strconv.Itoa(n.N), ")")
			return n
		case n.Kind == api.NEmbedPointer:
			w.all(".", "*")
		case n.Kind == api.NEmbed && within == api.NStruct:
			w.put(".")
		}
		w.put(n.Text)
		return n
	}
}

func (w *writer) params(n api.Node) api.Node {
	n.At = w.put("(")
	n.Kids = w.list(n.Kids, w.name)
	w.put(")")
	return n
}

func (w *writer) block(n api.Node) api.Node {
	n.At = w.put("{")
	w.ends()
	n.Kids = w.lines(n.Kids, w.statement)
	w.put("}")
	return n
}

func (w *writer) statement(n api.Node) api.Node {
	kids := n.Kids
	n.At = w.next()
	switch n.Kind {
	case api.NBlock:
		return w.block(n)
	case api.NDefine:
		w.all(n.Text, ":=")
		n.Kids = []api.Node{w.whole(kids[0])}
	case api.NDefineTwo, api.NAssignTwo:
		first := w.name(kids[0])
		w.put(",")
		n.Kids = []api.Node{first, w.name(kids[1])}
		w.put(map[int]string{api.NDefineTwo: ":=", api.NAssignTwo: "="}[n.Kind])
		n.Kids = append(n.Kids, w.expr(kids[2], postLevel, false))
	case api.NAssign:
		place := w.expr(kids[0], unaryLevel, false)
		w.put(n.Text)
		n.Kids = []api.Node{place, w.whole(kids[1])}
	case api.NStep:
		n.Kids = []api.Node{w.expr(kids[0], unaryLevel, false)}
		w.put(n.Text)
	case api.NDo:
		n.Kids = []api.Node{w.expr(kids[0], postLevel, false)}
	case api.NDefer:
		w.put("defer")
		n.Kids = []api.Node{w.expr(kids[0], postLevel, false)}
	case api.NReturn:
		w.put("return")
		n.Kids = []api.Node{w.orNone(kids[0], w.whole)}
	case api.NFall:
		w.put("fallthrough")
	case api.NBreak, api.NContinue:
		w.put(map[int]string{api.NBreak: "break", api.NContinue: "continue"}[n.Kind])
		if n.Text != "" {
			w.put(n.Text)
		}
	default:
		return w.control(n)
	}
	return n
}

func (w *writer) orNone(n api.Node, write func(api.Node) api.Node) api.Node {
	if n.Kind == api.NNone {
		return w.none()
	}
	return write(n)
}

func (w *writer) control(n api.Node) api.Node {
	kids := n.Kids
	if n.Text != "" {
		w.all(n.Text, ":")
	}
	switch n.Kind {
	case api.NIf:
		w.put("if")
		n.Kids = []api.Node{w.head(kids[0]), w.block(kids[1]), w.orNone(kids[2], func(n api.Node) api.Node {
			w.put("else")
			return w.statement(n)
		})}
	case api.NFor:
		w.put("for")
		n.Kids = []api.Node{w.orNone(kids[0], w.head), w.block(kids[1])}
	case api.NRange:
		w.put("for")
		n.Kids = []api.Node{w.item(kids[0])}
		if kids[1].Kind == api.NNone && w.maybe() {
			n.Kids = append(n.Kids, w.none())
		} else {
			w.put(",")
			n.Kids = append(n.Kids, w.item(kids[1]))
		}
		w.put("in")
		n.Kids = append(n.Kids, w.head(kids[2]), w.block(kids[3]))
	case api.NSwitch:
		w.put("switch")
		n.Kids = append([]api.Node{w.orNone(kids[0], w.head)}, w.cases(kids[1:], w.whole)...)
	case api.NTypeSwitch:
		w.put("switch")
		name := w.orNone(kids[0], func(n api.Node) api.Node {
			n = w.name(n)
			w.put(":=")
			return n
		})
		asked := w.expr(kids[1], postLevel, true)
		w.all(".", "(", "type", ")")
		n.Kids = append([]api.Node{name, asked}, w.cases(kids[2:], w.typed)...)
	}
	return n
}

func (w *writer) item(n api.Node) api.Node {
	if n.Kind == api.NNone {
		return w.leaf(n, "_")
	}
	return w.name(n)
}

func (w *writer) cases(cases []api.Node, part func(api.Node) api.Node) []api.Node {
	w.put("{")
	w.ends()
	var out []api.Node
	for _, c := range cases {
		list, body := c.Kids[0], c.Kids[1]
		c.At = w.next()
		if list.Kind == api.NNone {
			w.put("default")
			list = w.none()
		} else {
			w.put("case")
			list.At = w.next()
			list.Kids = w.list(list.Kids, part)
		}
		body.At = w.put(":")
		w.ends()
		body.Kids = w.lines(body.Kids, w.statement)
		c.Kids = []api.Node{list, body}
		out = append(out, c)
	}
	w.put("}")
	return out
}

const (
	unaryLevel = 6
	postLevel  = 7
)

var rowsOfSigns = []string{"", " || ", " && ", " == != < <= > >= ", " + - | ^ ", " * / % & << >> "}

func levelOf(n api.Node) int {
	switch n.Kind {
	case api.NUnary, api.NNew:
		return unaryLevel
	case api.NBinary:
		for level, row := range rowsOfSigns {
			if strings.Contains(row, " "+n.Text+" ") {
				return level
			}
		}
	}
	return postLevel
}

// whole writes an expression that may be any; head one in which no struct may be made, outside of brackets.
func (w *writer) whole(n api.Node) api.Node { return w.expr(n, 1, false) }

func (w *writer) head(n api.Node) api.Node { return w.expr(n, 1, true) }

// expr writes an expression of a level at least, in brackets, if it must, or by chance.
func (w *writer) expr(n api.Node, level int, bare bool) api.Node {
	must := levelOf(n) < level || bare && (n.Kind == api.NMake || n.Kind == api.NNew)
	if !must && w.IntN(8) > 0 {
		return w.plain(n, bare)
	}
	w.put("(")
	n = w.whole(n)
	w.put(")")
	return n
}

func (w *writer) plain(n api.Node, bare bool) api.Node {
	kids := n.Kids
	n.At = w.next()
	switch n.Kind {
	case api.NName, api.NInt, api.NFloat:
		w.put(n.Text)
	case api.NText:
		w.put(lex.Quote(n.Text))
	case api.NList:
		w.put("[")
		n.Kids = w.list(kids, w.whole)
		w.put("]")
	case api.NMap:
		w.all("map", "{")
		n.Kids = w.list(kids, w.pair)
		w.put("}")
	case api.NMake:
		w.all(n.Text, "{")
		n.Kids = w.list(kids, w.pair)
		w.put("}")
	case api.NNew:
		w.put("&")
		n.Kids = []api.Node{w.plain(kids[0], false)}
	case api.NLiteral:
		w.put("func")
		n.Kids = []api.Node{w.params(kids[0]), w.block(kids[1])}
	case api.NNilOf:
		w.all("nil", "(")
		n.Kids = []api.Node{w.typed(kids[0])}
		w.put(")")
	case api.NUnary:
		w.put(n.Text)
		n.Kids = []api.Node{w.expr(kids[0], unaryLevel, bare)}
	case api.NBinary:
		left := w.expr(kids[0], levelOf(n), bare)
		n.At = w.put(n.Text)
		n.Kids = []api.Node{left, w.expr(kids[1], levelOf(n)+1, bare)}
	default:
		return w.post(n, bare)
	}
	return n
}

func (w *writer) pair(n api.Node) api.Node {
	kids := n.Kids
	n.At = w.next()
	n.Kids = nil
	if n.Text != "" {
		w.put(n.Text)
	} else {
		n.Kids = append(n.Kids, w.whole(kids[0]))
	}
	w.put(":")
	n.Kids = append(n.Kids, w.whole(kids[len(kids)-1]))
	return n
}

func (w *writer) post(n api.Node, bare bool) api.Node {
	kids := n.Kids
	n.Kids = []api.Node{w.first(n, bare)}
	switch n.Kind {
	case api.NSelect:
		n.At = w.put(".")
		w.put(n.Text)
	case api.NIndex:
		n.At = w.put("[")
		n.Kids = append(n.Kids, w.whole(kids[1]))
		w.put("]")
	case api.NSlice:
		n.At = w.put("[")
		n.Kids = append(n.Kids, w.orNone(kids[1], w.whole))
		w.put(":")
		n.Kids = append(n.Kids, w.orNone(kids[2], w.whole))
		if kids[3].Kind != api.NNone {
			w.put(":")
		}
		n.Kids = append(n.Kids, w.orNone(kids[3], w.whole))
		w.put("]")
	case api.NCall:
		n.At = w.put("(")
		n.Kids = append(n.Kids, w.list(kids[1:], w.whole)...)
		w.put(")")
	case api.NAssert:
		n.At = w.put(".")
		w.put("(")
		n.Kids = append(n.Kids, w.typed(kids[1]))
		w.put(")")
	}
	return n
}

// first writes what something stands right behind: `map` as it is, and a `nil` that is called in brackets.
func (w *writer) first(n api.Node, bare bool) api.Node {
	first := n.Kids[0]
	if first.Kind != api.NName || first.Text != "map" && (first.Text != "nil" || n.Kind != api.NCall) {
		return w.expr(first, postLevel, bare)
	}
	if first.Text == "map" {
		return w.name(first)
	}
	w.put("(")
	first = w.whole(first)
	w.put(")")
	return first
}

func TestWrittenTexts(t *testing.T) {
	g := grower{dice(4)}
	for i := range 6000 {
		as := forms[i%3]
		n := g.root(as, g.IntN(8))
		text, want := written(g, as, n)
		as.want(t, text, told(want))
		if !tree.Same(n, want) {
			t.Fatalf("%q is not written as %s", text, told(n))
		}
		if t.Failed() {
			break
		}
	}
}
