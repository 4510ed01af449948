package compile_test

import (
	"math"
	"slices"
	"strings"
	"testing"

	"guise/api"
	"guise/code"
	"guise/compile"
	"guise/parse"
	"guise/tree"
	"guise/walk"
)

// wantWrong holds the error of a tree against what must be, and against what walk tells, if it tells something.
func wantWrong(t *testing.T, what string, n api.Node, must api.Wrong) {
	t.Helper()
	p, err := compile.Program(n)
	again, other := compile.Program(n)
	w, is := err.(*api.Wrong)
	if !is || *w != must {
		t.Errorf("C1: %s: %s; must be %s", brief(what), brief(wrongText(err)), brief(wrongText(&must)))
		return
	}
	if p.Funcs != nil || p.Globals != nil || again.Funcs != nil || again.Globals != nil {
		t.Errorf("P2: %s: a program beside an error", brief(what))
	}
	if err == other {
		t.Errorf("P2: %s: the error is not new", brief(what))
	}
	if _, err := walk.Run(n, 100, 10); isWrong(err) && wrongText(err) != wrongText(&must) {
		t.Errorf("C1: %s: walk tells %s; must be %s", brief(what), brief(wrongText(err)), brief(wrongText(&must)))
	}
}

func isWrong(err error) bool {
	_, is := err.(*api.Wrong)
	return is
}

// node is one at a place.
func node(kind int, text string, at int, kids ...api.Node) api.Node {
	return api.Node{Kind: kind, Text: text, At: at, Kids: kids}
}

// mainOf is main with these statements.
func mainOf(statements ...api.Node) api.Node {
	return node(api.NFunc, "main", 1, node(api.NParams, "", 2), node(api.NBlock, "", 3, statements...))
}

func programOf(declarations ...api.Node) api.Node { return node(api.NProgram, "", 0, declarations...) }

func returning(e api.Node) api.Node { return node(api.NReturn, "", 4, e) }

func TestNoProgram(t *testing.T) {
	t.Parallel()
	long := strings.Repeat("x", 70000)
	for _, n := range []api.Node{
		{}, {Kind: api.NBlock, At: 7}, {Kind: api.NName, Text: "abc", At: -5}, {Kind: -1, Text: long, At: math.MaxInt}, {Kind: api.NText, Text: long, At: math.MinInt},
		mainOf(), {Kind: api.NBinary + 1, At: 70000, Kids: []api.Node{programOf()}}, {Kind: api.NFunc, Text: "9", N: 4, Kids: []api.Node{{}}},
	} {
		wantWrong(t, "no program", n, api.Wrong{Code: api.ErrKind, At: n.At, Name: n.Text})
	}
}

// Each error that walk tells of a tree.
func TestWrongTrees(t *testing.T) {
	t.Parallel()
	name := func(s string, at int) api.Node { return node(api.NName, s, at) }
	deep := name("x", 9)
	for range 70 {
		deep = node(api.NUnary, "-", 8, deep)
	}
	many := node(api.NList, "", 5, slices.Repeat([]api.Node{node(api.NInt, "1", 6)}, 20000)...)
	kind := func(s, of string, at int) api.Node { return node(api.NType, s, at, name(of, at+1)) }
	var kinds []api.Node
	for i := range 101 {
		kinds = append(kinds, kind("T"+strings.Repeat("x", i%30)+string(rune('a'+i/30)), "int", 10+i))
	}
	for _, x := range []struct {
		what string
		n    api.Node
		must api.Wrong
	}{
		{"tree: kind", programOf(mainOf(returning(node(api.NInt, "01", 70001)))), api.Wrong{Code: api.ErrKind, At: 70001, Name: "01"}},
		{"tree: a Text of the program", node(api.NProgram, "x", -1), api.Wrong{Code: api.ErrKind, At: -1, Name: "x"}},
		{"tree: deep", programOf(mainOf(returning(deep))), api.Wrong{Code: api.ErrDeep, At: 8, Name: "-"}},
		{"tree: many", programOf(mainOf(returning(many))), api.Wrong{Code: api.ErrMany, At: 6, Name: "1"}},
		{"tree: parameters", programOf(node(api.NFunc, "main", 0, node(api.NParams, "", 3, slices.Repeat([]api.Node{name("x", 4)}, 13)...), node(api.NBlock, "", 5))), api.Wrong{Code: api.ErrMany, At: 3}},
		{"names: twice", programOf(mainOf(), mainOf()), api.Wrong{Code: api.ErrTwice, At: 1, Name: "main"}},
		{"names: unknown", programOf(mainOf(returning(name("x", 70001)))), api.Wrong{Code: api.ErrUnknown, At: 70001, Name: "x"}},
		{"names: use", programOf(mainOf(returning(name("int", 5)))), api.Wrong{Code: api.ErrUse, At: 5, Name: "int"}},
		{"names: label", programOf(mainOf(node(api.NBreak, "L", 5))), api.Wrong{Code: api.ErrLabel, At: 5, Name: "L"}},
		{"names: no main", node(api.NProgram, "", 66), api.Wrong{Code: api.ErrMain, At: 66, Name: "main"}},
		{"types: twice", programOf(node(api.NProtocol, "P", 5, node(api.NMethod, "m", 6), node(api.NMethod, "m", -7)), mainOf()), api.Wrong{Code: api.ErrTwice, At: -7, Name: "m"}},
		{"types: many", programOf(append(kinds, mainOf())...), api.Wrong{Code: api.ErrMany, At: 110, Name: kinds[100].Text}},
		{"types: unknown", programOf(node(api.NStruct, "S", 5, node(api.NEmbed, "Q", 6)), mainOf()), api.Wrong{Code: api.ErrUnknown, At: 6, Name: "Q"}},
		{"types: type", programOf(kind("T", "U", 5), mainOf()), api.Wrong{Code: api.ErrType, At: 6, Name: "U"}},
		{"types: cycle", programOf(mainOf(), node(api.NStruct, "S", 5, node(api.NEmbed, "S", 6))), api.Wrong{Code: api.ErrCycle, At: 5, Name: "S"}},
		{"types: receiver", programOf(mainOf(), node(api.NMethodDecl, "m", 5, node(api.NReceiver, "r", 6, name("int", 7)), node(api.NParams, "", 8), node(api.NBlock, "", 9))), api.Wrong{Code: api.ErrReceiver, At: 7, Name: "int"}},
	} {
		wantWrong(t, x.what, x.n, x.must)
	}
}

// Of two wrong things the one is told whose turn comes first, wherever it stands.
func TestOrderOfWrongThings(t *testing.T) {
	t.Parallel()
	wrong := []api.Node{ // each of a group by itself, in the order of the groups
		node(api.NVar, "a", 10, node(api.NInt, "01", 11)),
		node(api.NVar, "b", 20, node(api.NName, "nobody", 21)),
		node(api.NType, "T", 30, node(api.NName, "U", 31)),
		node(api.NVar, "c", 40, node(api.NText, "far", -41)),
		node(api.NVar, "d", 50, node(api.NText, "out", 60001)),
	}
	must := []api.Wrong{{Code: api.ErrKind, At: 11, Name: "01"}, {Code: api.ErrUnknown, At: 21, Name: "nobody"}, {Code: api.ErrType, At: 31, Name: "U"}, {Code: api.ErrArg, At: -41, Name: "far"}, {Code: api.ErrArg, At: 60001, Name: "out"}}
	for i := range wrong {
		for j := range wrong {
			first := min(i, j)
			if i > 2 && j > 2 {
				first = i // of two places the first one in the tree
			}
			all := []api.Node{wrong[i], mainOf(), wrong[j]}
			if i == j {
				all = all[:2]
			}
			wantWrong(t, must[i].Error()+" ahead of "+must[j].Error(), programOf(all...), must[first])
		}
	}
	wantWrong(t, "all of them", programOf(append(slices.Clone(wrong), node(api.NFunc, "f", 1, node(api.NParams, "", 2), node(api.NBlock, "", 3)))...), must[0])
	wantWrong(t, "a place, and no main", programOf(wrong[3]), api.Wrong{Code: api.ErrMain, Name: "main"})
	wantWrong(t, "a place of what is no program", node(api.NBlock, "", -1), api.Wrong{Code: api.ErrKind, At: -1})
}

// everyNode has each kind of node.
const everyNode = `
type K = int
type T struct { a; .Q; .*R }
type Q struct { b }
type R struct { c }
protocol P { m(1); S }
protocol S { }
func (t *T) m(a) { return t }
func (q Q) n() { }
var v = [1, 2.5, "text", map{1: 2}, T{a: 1}, &Q{}, nil(*T), nil(list), -1, !true, v[0], v[1:2:3]]
func main() {
	z := 1
	x, ok := v.(*T)
	x, ok = v[z]
	x.a += 1
	L: for i, j in 3 { if i == j { break L } else { continue } }
	for x { }
	switch x { case 1: fallthrough; default: { x++ } }
	switch y := x.(type) { case int, *T, nil: y = func(a) { return a }; case any: }
	defer x.m(1)
	f(v)
	return
}
func f(a) { }
`

// withPlace is a tree in which a node, by its number, is at another place, and that node itself.
func withPlace(n api.Node, number, at int) (api.Node, api.Node) {
	count := -1
	var found api.Node
	var copied func(n api.Node) api.Node
	copied = func(n api.Node) api.Node {
		if count++; count == number {
			n.At = at
			found = n
		}
		kids := make([]api.Node, len(n.Kids))
		for i, kid := range n.Kids {
			kids[i] = copied(kid)
		}
		n.Kids = kids
		return n
	}
	return copied(n), found
}

func TestPlaces(t *testing.T) {
	t.Parallel()
	n := parsed(t, everyNode)
	kinds := map[int]int{}
	for number := range tree.Count(n) {
		for _, at := range []int{-1, math.MinInt, 60001, math.MaxInt} {
			wrong, found := withPlace(n, number, at)
			kinds[found.Kind]++
			wantWrong(t, "a place", wrong, api.Wrong{Code: api.ErrArg, At: at, Name: found.Text})
			for _, other := range []int{number / 2, number + 7, tree.Count(n) - 1} {
				if other == number || other >= tree.Count(n) {
					continue
				}
				two, also := withPlace(wrong, other, -77)
				must := api.Wrong{Code: api.ErrArg, At: at, Name: found.Text}
				if other < number {
					must = api.Wrong{Code: api.ErrArg, At: -77, Name: also.Text}
				}
				wantWrong(t, "two places", two, must)
			}
		}
		for _, at := range []int{0, 60000} {
			fine, _ := withPlace(n, number, at)
			if p, err := compile.Program(fine); err != nil || code.Right(p) != nil {
				t.Errorf("C1: the node %d at %d: %v", number, at, err)
			}
		}
	}
	for kind := api.NProgram; kind <= api.NBinary; kind++ {
		if kinds[kind] == 0 {
			t.Errorf("no node of the kind %d was asked", kind)
		}
	}
}

func TestPlaceOfALongText(t *testing.T) {
	t.Parallel()
	for _, size := range []int{0, 40, 41, 65536} {
		text := strings.Repeat("ab\x00", size)[:size]
		n := programOf(mainOf(returning(node(api.NText, text, 60001))))
		wantWrong(t, "a long text", n, api.Wrong{Code: api.ErrArg, At: 60001, Name: text})
	}
}

// Text tells what parse tells; then what Program tells of the tree.
func TestWrongTexts(t *testing.T) {
	t.Parallel()
	for _, x := range []struct{ s, must string }{
		{"func main() { @ }", `10 at 14 ""`},
		{"func main() { \"\\q\" }", `11 at 15 ""`},
		{"func main() { print(007) }", `12 at 20 ""`},
		{strings.Repeat(" ", 60001), `13 at 0 ""`},
		{"func main() { return " + strings.Repeat("x", 41) + " }", `13 at 21 ""`},
		{"func main() { x }", `30 at 16 "}"`},
		{"", `44 at 0 "main"`},
		{"func main(", `30 at 10 ""`},
		{"protocol P { m(13) }\nfunc main() { }", `20 at 13 "m"`},
		{"func main() { return " + strings.Repeat("-(", 70) + "1" + strings.Repeat(")", 70) + " }", `21 at 133 "-"`},
		{"func main() { print(" + strings.Repeat("1,", 20000) + ") }", `22 at 40006 "1"`},
		{"func main() { return x }", `41 at 21 "x"`},
		{"func main() { return x @ }", `10 at 23 ""`},
		{"func main() { return x }\ntype T = U\nfunc", `30 at 40 ""`},
		{"func f() { }", `44 at 0 "main"`},
		{"type T = U\nfunc main() { }", `50 at 9 "U"`},
		{"type T = U\nfunc main() { break }", `43 at 25 ""`},
		{"type T struct { .T }\nfunc main() { }", `51 at 0 "T"`},
		{"func (x int) m() { }\nfunc main() { }", `52 at 8 "int"`},
		{"type int = int\nfunc main() { }", `40 at 0 "int"`},
		{"func main() { print = 1 }", `42 at 14 "print"`},
	} {
		p, err := compile.Text(x.s)
		if !isWrong(err) || wrongText(err) != x.must || p.Funcs != nil || p.Globals != nil {
			t.Errorf("C1: %q: %s; must be %s", brief(x.s), wrongText(err), x.must)
		}
		if _, perr := parse.Program(x.s); perr != nil && wrongText(perr) != wrongText(err) {
			t.Errorf("C1: %q: %s; parse tells %s", brief(x.s), wrongText(err), wrongText(perr))
		}
	}
}

// A place that parse tells can be the last one: a text as long as it may be.
func TestLongestText(t *testing.T) {
	t.Parallel()
	s := "func main() { print(1) }"
	for _, s := range []string{s + strings.Repeat(" ", 60000-len(s)), strings.Repeat("\n", 60000-len(s)) + s} {
		p, err := compile.Text(s)
		if err != nil || code.Right(p) != nil {
			t.Errorf("C1: %v", err)
		}
	}
	if _, err := compile.Text(strings.Repeat("\n", 60001-len(s)) + s); wrongText(err) != `13 at 0 ""` {
		t.Errorf("C1: %v", err)
	}
}
