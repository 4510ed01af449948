package parse_test

import (
	"errors"
	"strconv"
	"strings"
	"testing"
	"unsafe"

	"guise/api"
	"guise/tree"
)

// wantCode reads a text of which only the error's code, place and name are told; an empty want: there is no error.
func (f form) wantCode(t *testing.T, s, want string) {
	t.Helper()
	got := f.told(t, s)
	if !strings.HasPrefix(got, "!") {
		got = ""
	}
	if got != want {
		t.Errorf("%s(%.60q ..): %q, must be %q", f.name, s, got, want)
	}
}

// wantToken reads a text that is no such form, wherever that shows.
func (f form) wantToken(t *testing.T, s string) {
	t.Helper()
	if _, err := f.read(s); !errors.Is(err, api.ErrToken) {
		t.Errorf("%s(%.60q ..): %v, must be ErrToken", f.name, s, err)
	}
}

func names(count int) string {
	return strings.TrimSuffix(strings.Repeat("a,", count), ",")
}

func TestLimitsOfDeclarations(t *testing.T) {
	program.wantCode(t, "func f("+names(12)+") { }", "")
	program.wantCode(t, "func f("+names(13)+") { }", "!many@6")
	program.wantCode(t, "func (t T) m("+names(13)+") { }", "!many@12")
	expression.wantCode(t, "func("+names(12)+",) { }", "")
	expression.wantCode(t, "func("+names(13)+",) { }", "!many@4")
	program.wantCode(t, "type T struct { "+strings.Repeat("a;", 30)+"}", "")
	program.wantCode(t, "type T struct { "+strings.Repeat("a;", 31)+"}", "!many@0 T")
	program.wantCode(t, "protocol P { "+strings.Repeat("a;", 60)+"}", "")
	program.wantCode(t, " protocol P { "+strings.Repeat("a;", 61)+"}", "!many@1 P")
	program.wantCode(t, "protocol P { a(12) }", "")
	program.wantCode(t, "protocol P { Q; a(13) }", "!kind@16 a")
	program.wantCode(t, "protocol P { Q; a(9223372036854775807) }", "!kind@16 a")
	program.wantCode(t, "protocol P { Q; a(9223372036854775808) }", "!number@18")
}

func TestSecondDefault(t *testing.T) {
	statements.wantCode(t, "switch { default: case a: default: }", "!kind@26")
	statements.wantCode(t, "switch e.(type) { default: default: }", "!kind@27")
	statements.wantCode(t, "switch { default: switch { default: } }", "")
}

// nested puts brackets around a text so often.
func nested(open, in, shut string, times int) string {
	return strings.Repeat(open, times) + in + strings.Repeat(shut, times)
}

func TestDepth(t *testing.T) {
	expression.wantCode(t, nested("!", "a", "", 59), "")
	expression.wantCode(t, nested("!", "a", "", 60), "!deep@60 a")
	expression.wantCode(t, nested("[", "", "]", 60), "")
	expression.wantCode(t, nested("[", "", "]", 61), "!deep@60")
	expression.wantCode(t, nested("f(", "", ")", 60), "!deep@118 f")
	statements.wantCode(t, nested("{", "", "}", 59), "")
	statements.wantCode(t, nested("{", "", "}", 60), "!deep@59")
	program.wantCode(t, "func f() "+nested("{", "", "}", 58), "")
	program.wantCode(t, "func f() "+nested("{", "", "}", 59), "!deep@67")
	program.wantCode(t, "var x = "+nested("!", "a", "", 57), "")
	program.wantCode(t, "var x = "+nested("!", "a", "", 58), "!deep@66 a")
	// The first one in the tree's order, not in the text's.
	expression.wantCode(t, "a"+strings.Repeat("+a", 59), "")
	expression.wantCode(t, "a"+strings.Repeat("+a", 60), "!deep@0 a")
	expression.wantCode(t, "a"+strings.Repeat(".b", 30000-1), "!deep@"+strconv.Itoa(59997-2*60)+" b")
	statements.wantCode(t, "if a { }"+strings.Repeat(" else if a { }", 57), "")
	statements.wantCode(t, "if a { }"+strings.Repeat(" else if a { }", 58), "!deep@"+strconv.Itoa(8+58*14-14+6+3)+" a")
}

func TestNodes(t *testing.T) {
	ones := func(count int) string { return "[" + strings.Repeat("1,", count) + "]" }
	expression.wantCode(t, ones(19999), "")
	expression.wantCode(t, ones(20000), "!many@"+strconv.Itoa(1+2*19999)+" 1")
	expression.wantCode(t, ones(29998), "!many@"+strconv.Itoa(1+2*19999)+" 1")
	statements.wantCode(t, strings.Repeat("{};", 19999), "")
	statements.wantCode(t, strings.Repeat("{};", 20000), "!many@"+strconv.Itoa(3*19999))
	if n, _ := expression.read(ones(19999)); tree.Count(n) != 20000 {
		t.Error("there are not 20000 nodes")
	}
}

func TestLimitsOfTokens(t *testing.T) {
	for _, f := range forms {
		f.wantCode(t, strings.Repeat(" ", 60001), "!long@0")
		f.wantCode(t, "a "+strings.Repeat("n", 41), "!long@2")
		f.wantCode(t, "1.00000000000000", map[string]string{"Program": "!token@0 1.00000000000000", "Statements": "!token@16"}[f.name])
		f.wantCode(t, "1.000000000000000", "!number@0")
	}
	expression.wantCode(t, "a"+strings.Repeat(" ", 59999), "")
	expression.wantCode(t, "a"+strings.Repeat(" ", 60000), "!long@0")
	program.wantCode(t, strings.Repeat("\n", 60000), "")
	expression.want(t, strings.Repeat("n", 40), "Name:"+strings.Repeat("n", 40)+"@0")
	expression.want(t, strings.Repeat("n", 40)+" b", "!token@41 b")
	long := strings.Repeat("x", 59000)
	expression.want(t, `a "`+long+`"`, "!token@2 "+long)
	expression.want(t, `"`+long+`"`, "Text:"+long+"@0")
}

// Of several errors the first one: Scan's, then ErrToken, then what is wrong with the tree.
func TestOrderOfErrors(t *testing.T) {
	expression.want(t, "a b #", "!byte@4")
	expression.want(t, "a b \"", "!quote@4")
	statements.want(t, ") 01", "!number@2")
	expression.want(t, nested("!", "a b", "", 60), "!token@62 b")
	expression.want(t, "["+strings.Repeat("1,", 20000)+"] b", "!token@40003 b")
	program.want(t, "protocol P { m(13) } }", "!token@21 }")
	program.want(t, "func f("+names(13)+") { } )", "!token@38 )")
	statements.want(t, "switch { default: default: } }", "!token@29 }")
	program.want(t, "protocol P { m(13) } #", "!byte@21")
	expression.want(t, "func("+names(13)+") { x = "+nested("!", "a", "", 60)+" }", "!many@4")
}

// Brackets of all kinds, as deep as a text can hold them: each call ends.
func TestDeepTexts(t *testing.T) {
	for _, open := range []string{"(", "[", "{", "!", "*", "-(", "a[", "a[:", "f(", "a.b(", "map{1:", "&T{a:", "a+(", "a||a&&a<a+a*(", "func(){", "func(a){x:=[",
		"if a{", "if a{}else ", "if f(func(){", "for{", "L:for{", "switch a{case b:", "switch func(){", "a;", "a,"} {
		text := strings.Repeat(open, api.MaxSource/len(open))
		for _, f := range forms {
			f.wantToken(t, text)
		}
	}
	program.want(t, strings.Repeat(";", 60000), "Program@0")
	statements.want(t, strings.Repeat(";", 60000), "Block@0")
	expression.want(t, "a"+strings.Repeat(";", 59999), "Name:a@0")
}

func TestDeepTextsThatAreWhole(t *testing.T) {
	expression.want(t, nested("(", "a", ")", 29999), "Name:a@29999")
	expression.want(t, nested("(", "a", ")", 5000), "Name:a@5000")
	statements.want(t, nested("(", "f()", ")", 28000), "Block@0(Do@0(Call@28001(Name:f@28000)))")
	statements.want(t, nested("(", "x", ")", 28000)+"=1", "Block@0(Assign:=@0(Name:x@28000 Int:1@56002))")
	expression.want(t, nested("(", "a", ")", 20000)[:40000], "!token@40000")
	expression.want(t, nested("(", "a", ")", 20000)+")", "!token@40001 )")
	expression.wantCode(t, nested("[", "", "]", 30000), "!deep@60")
	expression.wantCode(t, nested("!", "a", "", 59999), "!deep@60 !")
	expression.wantCode(t, "a"+strings.Repeat("()", 29999), "!deep@"+strconv.Itoa(1+2*(29999-61)))
	expression.wantCode(t, nested("func(){x=", "1", "}", 5900), "!deep@"+strconv.Itoa(19*9+7)+" x")
	statements.wantCode(t, nested("{", "", "}", 30000), "!deep@59")
	statements.wantCode(t, nested("if a{", "", "}", 9999), "!deep@"+strconv.Itoa(29*5+3)+" a")
	program.wantCode(t, "func f()"+nested("{", "", "}", 29990), "!deep@66")
}

func TestErrorsAreNewAndNilItself(t *testing.T) {
	for _, s := range []string{"#", ")", nested("[", "", "]", 61)} {
		_, a := expression.read(s)
		_, b := expression.read(s)
		if a == nil || a == b {
			t.Errorf("Expr(%.20q): the errors are not new ones", s)
		}
	}
	for f, s := range map[*form]string{&program: "", &statements: "", &expression: "a"} {
		if _, err := f.read(s); err != nil {
			t.Errorf("%s(%q): an error behind the interface: %v", f.name, s, err)
		}
	}
	_, err := statements.read("f() )")
	var fault *api.Fault
	var panicked *api.Panicked
	if !errors.Is(err, api.ErrToken) || errors.Is(err, api.ErrKind) || errors.As(err, &fault) || errors.As(err, &panicked) {
		t.Error("not the code alone is found")
	}
}

// lists are all lists of a tree, with the room behind them.
func lists(n api.Node) [][]api.Node {
	var out [][]api.Node
	if cap(n.Kids) > 0 {
		out = append(out, n.Kids[:cap(n.Kids)])
	}
	for _, kid := range n.Kids {
		out = append(out, lists(kid)...)
	}
	return out
}

func overlap(a, b []api.Node) bool {
	const size = unsafe.Sizeof(api.Node{})
	from, other := uintptr(unsafe.Pointer(&a[0])), uintptr(unsafe.Pointer(&b[0]))
	return from < other+uintptr(len(b))*size && other < from+uintptr(len(a))*size
}

// shares: whether part stands within the memory of whole.
func shares(whole, part string) bool {
	if whole == "" || part == "" {
		return false
	}
	from := uintptr(unsafe.Pointer(unsafe.StringData(whole)))
	at := uintptr(unsafe.Pointer(unsafe.StringData(part)))
	return from <= at && at < from+uintptr(len(whole))
}

func TestAnswersAreNewMemory(t *testing.T) {
	g := grower{dice(11)}
	for i := range 60 {
		as := forms[i%3]
		text, _ := written(g, as, g.root(as, 6))
		a, _ := as.read(text)
		b, _ := as.read(text)
		all := append(lists(a), lists(b)...)
		for i := range all {
			for _, other := range all[:i] {
				if overlap(all[i], other) {
					t.Fatalf("%s(%q): two lists share memory", as.name, text)
				}
			}
		}
		for _, n := range tree.All(a) {
			if shares(text, n.Text) {
				t.Errorf("%s(%q): %s is a piece of the text", as.name, text, n.Text)
			}
		}
		before := told(b)
		for _, list := range lists(a) {
			clear(list)
		}
		if told(b) != before || as.told(t, text) != before {
			t.Errorf("%s(%q): what was answered is kept", as.name, text)
		}
	}
	text := strings.Repeat("a ", 2)
	_, err := expression.read(text)
	var w *api.Wrong
	if errors.As(err, &w); w.Name != "a" || shares(text, w.Name) {
		t.Error("the name of an error is a piece of the text")
	}
}

// Any bytes: a tree that is right, or an error; and the same one again.
func checkAnyBytes(t *testing.T, s string) {
	t.Helper()
	for _, f := range forms {
		got := f.told(t, s)
		if got != f.told(t, s) {
			t.Errorf("%s(%q): two answers", f.name, s)
		}
		n, err := f.read(s)
		if err == nil && tree.Right(n) != nil {
			t.Errorf("%s(%q): a tree that is not right", f.name, s)
		}
		if !strings.HasPrefix(got, "!") || strings.HasPrefix(got, "!token") {
			f.wantAsModel(t, s)
		}
	}
}

func TestAnyBytes(t *testing.T) {
	r := dice(12)
	for range 2000 {
		const likely = "ab_1 .;\n\"\\(){}[]+-*&=:,"
		b := make([]byte, r.IntN(12))
		for i := range b {
			b[i] = oneOf(r, byte(r.IntN(256)), likely[r.IntN(len(likely))])
		}
		checkAnyBytes(t, string(b))
	}
	for range 2000 {
		var words []string
		for range r.IntN(12) {
			words = append(words, oneOf(r, vocabulary...), oneOf(r, " ", "", "\n"))
		}
		checkAnyBytes(t, strings.Join(words, ""))
	}
}

func FuzzParse(f *testing.F) {
	for _, c := range formTexts {
		f.Add(c.s)
	}
	f.Fuzz(func(t *testing.T, s string) {
		if len(s) < 300 {
			checkAnyBytes(t, s)
		}
	})
}
