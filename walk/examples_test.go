package walk_test

import (
	"testing"

	"guise/api"
	"guise/walk"
)

func TestExamples(t *testing.T) {
	for _, e := range []struct {
		s           string
		fuel, depth int
		must        string
		steps       int
	}{
		{`func main() { print(1 + 2, "a", ["a"]) }`, 100, 10, `done: 3 a ["a"]`, 2},
		{`func main() { print(1 + 2, "a", ["a"]) }`, 1, 10, `spent: `, 1},
		{"func f() { defer g(); panic(\"x\") }\nfunc g() { print(recover()) }\nfunc main() { print(f()) }", 100, 10, "done: x|nil", 7},
		{"type T struct { a }\nfunc (t *T) m() { return t == nil }\nfunc main() { x := nil(*T); print(x.m(), x == nil, x.a) }", 100, 10, "panic:  <nil|field a>", 5},
		{"func main() { f() }\nfunc f() { f() }", 100, 3, "overflow: ", 7},
		{`func main() { s := "ab"; for { s += s } }`, 100, 10, "panic:  <count|131072>", 35},
		{`func main() { panic(&fault{}) }`, 100, 10, "panic:  <nil|nil>", 2},
		{"type E struct { .P }\nprotocol P { f(0) }\nfunc main() { e := &E{}; e.P = e; e.f() }", 100, 10, "panic:  <missing|f of *E>", 4},
	} {
		o, err := walk.Text(e.s, e.fuel, e.depth)
		if got := told(o, err); got != e.must || o.Steps != e.steps {
			t.Errorf("W1: %s: %s, %d steps; must be %s, %d", e.s, got, o.Steps, e.must, e.steps)
		}
		asTheModel(t, e.s, parsed(t, e.s), e.fuel, e.depth)
	}
}

func TestShownOfExamples(t *testing.T) {
	for s, must := range map[string]string{
		"type T struct { a }\nfunc main() { x := nil(*T); print(x.a) }": `&fault{word: "nil", more: "field a"}`,
		`func main() { panic(&fault{}) }`:                               "&fault{word: nil, more: nil}",
		`func main() { x := "a"; y := x.(int) }`:                        `&fault{word: "conversion", more: "text is not int"}`,
		`func main() { m := map{1: "a"}; m[[1]] = 2 }`:                  `&fault{word: "key", more: "list"}`,
		`func main() { panic("x") }`:                                    `"x"`,
	} {
		_, err := walk.Text(s, 100, 10)
		if p, is := err.(*api.Panicked); !is || p.Shown != must {
			t.Errorf("W1: %s: %v; must be shown as %s", s, err, must)
		}
	}
	want(t, "W1", `func main() { f := &fault{}; print(f.Error()) }`, "done: nil")
}

func TestExamplesOfTheWhole(t *testing.T) {
	for _, e := range []row{
		{`func main() { print(1 + 2, "a" + "b", [1, "x", nil]) }`, `done: 3 ab [1, "x", nil]`},
		{"type P struct { x }\nfunc (p *P) get() { if p == nil(*P) { return \"none\" }; return p.x }\nfunc main() { q := nil(*P); print(q == nil, q.get()) }", "done: false none"},
		{"protocol Sound { say(0) }\ntype Dog struct { name }\nfunc (d Dog) say() { return d.name }\ntype Pup struct { .*Dog }\nfunc main() { s, ok := Pup{}.(Sound); print(ok); print(Pup{Dog: &Dog{name: \"Rex\"}}.(Sound).say()) }", "done: true|Rex"},
		{`func main() { x := "a"; y := x.(int) }`, "panic:  <conversion|text is not int>"},
		{`func main() { defer func() { e := recover(); switch v := e.(type) { case error: print(v.Error()) } }(); print([1] == [1]) }`, "done: compare list"},
		{`func main() { m := map{1: "a"}; m[[1]] = 2 }`, "panic:  <key|list>"},
		{"func f() { defer func() { recover() }(); panic(\"x\") }\nfunc main() { print(f()) }", "done: nil"},
		{`func main() { l := []; for i in 3 { l = append(l, func() { return i }) }; for j, f in l { print(f()) } }`, "done: 0|1|2"},
		{`func main() { a := make(2); b := a[0:1]; b = append(b, 7); print(a) }`, "done: [nil, 7]"},
	} {
		want(t, "DOC", e.s, e.must)
	}
	o, err := walk.Text(`func main() { for { } }`, 10, 10)
	if got := told(o, err); got != "spent: " || o.Steps != 10 {
		t.Errorf("DOC: for { }: %s, %d steps", got, o.Steps)
	}
}
