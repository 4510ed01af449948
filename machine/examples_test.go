package machine_test

import (
	"testing"

	"guise/api"
	"guise/machine"
)

// The chapter's examples, one by one.
func TestExamples(t *testing.T) {
	for _, e := range []struct {
		code string
		fuel int
		must string
	}{
		{"nil; return", 0, "done 0"},
		{"int '1'; text 'a'; binary '+'; return", 9, "panic 0 ! operand + int text"},
		{"load 0; return", 9, "done 0"},
		{"list 0; call 0; return", 9, "panic 0 ! operand () list"},
	} {
		is(t, "P16: "+e.code, ended(made(t, begins(e.code), noTypes(), 5).Run(e.fuel)), e.must)
		asModel(t, begins(e.code), noTypes(), 5, e.fuel)
	}
	_, err := made(t, begins("int '1'; text 'a'; binary '+'; return"), noTypes(), 5).Run(9)
	is(t, "P16.2: the panic", err.(*api.Panicked).Shown, `&fault{word: "operand", more: "+ int text"}`)
}

func TestExampleOfALoop(t *testing.T) {
	m := made(t, begins("step; nil; pop; jump 0"), noTypes(), 5)
	is(t, "P16.2: Run(5)", ended(m.Run(5)), "spent 5")
	if m.Over() {
		t.Error("P16.2: a run that is spent is over")
	}
	is(t, "P16.2: Run(2)", ended(m.Run(2)), "spent 7")
}

func TestExamplesOfDefers(t *testing.T) {
	for _, e := range []struct{ code, must, events string }{
		{"int '5'; defer 0 @3; nil; return", "panic 0 ! operand () int", "5"},
		{"nil; defer 0 @3; nil; return", "panic 0 ! nil call", "45"},
	} {
		var kinds string
		m := made(t, begins(e.code), noTypes(), 5)
		m.Watch(func(x api.Event) { kinds += string(rune('0' + x.Kind)) })
		is(t, "P16: "+e.code, ended(m.Run(9)), e.must)
		is(t, "P16.2: the events of "+e.code, kinds, e.events)
		asModel(t, begins(e.code), noTypes(), 5, 9)
	}
}

func TestExampleOfThings(t *testing.T) {
	m := made(t, begins("list 0; storeglobal 0; list 0; pop; nil; return"), noTypes(), 5)
	m.Run(0)
	if a, b, c := m.Things(), m.Collect(), m.Things(); a != 4 || b != 1 || c != 3 { // two variables here
		t.Error("P16.3:", a, b, c)
	}
	m = ofText(t, "func main() { m := map{1: [2]}; for k in m { m[1] = nil; for { } } }", 5)
	m.Run(9)
	if n := m.Collect(); n != 0 {
		t.Error("P16.3: the turn has the list yet:", n)
	}
}

func TestExamplesOfNew(t *testing.T) {
	p := begins("nil; return")
	for _, depth := range []int{0, 1001} {
		wantNoMachine(t, p, noTypes(), depth, "1 0")
	}
	wantNoMachine(t, begins("struct 0 'T'; return"), noTypes(), 1, "130 0 0")
}

// Chapter 12's examples, as texts.
func TestExamplesOfWalk(t *testing.T) {
	for _, e := range []struct {
		text        string
		fuel, depth int
		must        string
	}{
		{`func main() { print(1 + 2, "a", ["a"]) }`, 100, 10, `done 2 | 3 a ["a"]`},
		{`func main() { print(1 + 2, "a", ["a"]) }`, 1, 10, `spent 1`},
		{"func f() { defer g(); panic(\"x\") }\nfunc g() { print(recover()) }\nfunc main() { print(f()) }", 100, 10, "done 7 | x | nil"},
		{"type T struct { a }\nfunc (t *T) m() { return t == nil }\nfunc main() { x := nil(*T); print(x.m(), x == nil, x.a) }", 100, 10, "panic 5 ! nil field a"},
		{"func main() { f() }\nfunc f() { f() }", 100, 3, "overflow 7"},
		{`func main() { s := "ab"; for { s += s } }`, 1000, 10, "panic 35 ! count 131072"},
		{"func main() { panic(&fault{}) }", 100, 10, "panic 2 ! nil nil"},
		{"type E struct { .P }\nprotocol P { f(0) }\nfunc main() { e := &E{}; e.P = e; e.f() }", 100, 10, "panic 4 ! missing f of *E"},
	} {
		is(t, "P16.2: "+e.text, ended(machine.Text(e.text, e.fuel, e.depth)), e.must)
		asWalk(t, e.text, e.fuel, e.depth)
	}
}

// The whole's examples.
func TestExamplesOfTheWhole(t *testing.T) {
	for _, e := range []struct{ text, must string }{
		{`func main() { print(1 + 2, "a" + "b", [1, "x", nil]) }`, `done 2 | 3 ab [1, "x", nil]`},
		{"type P struct { x }\nfunc (p *P) get() { if p == nil(*P) { return \"none\" }; return p.x }\nfunc main() { q := nil(*P); print(q == nil, q.get()) }", "done 6 | false none"},
		{"protocol Sound { say(0) }\ntype Dog struct { name }\nfunc (d Dog) say() { return d.name }\ntype Pup struct { .*Dog }\nfunc main() { s, ok := Pup{}.(Sound); print(ok); print(Pup{Dog: &Dog{name: \"Rex\"}}.(Sound).say()) }", "done 6 | true | Rex"},
		{`func main() { x := "a"; y := x.(int) }`, "panic 3 ! conversion text is not int"},
		{`func main() { defer func() { e := recover(); switch v := e.(type) { case error: print(v.Error()) } }(); print([1] == [1]) }`, "done 8 | compare list"},
		{`func main() { m := map{1: "a"}; m[[1]] = 2 }`, "panic 3 ! key list"},
		{"func f() { defer func() { recover() }(); panic(\"x\") }\nfunc main() { print(f()) }", "done 7 | nil"},
		{`func main() { l := []; for i in 3 { l = append(l, func() { return i }) }; for j, f in l { print(f()) } }`, "done 22 | 0 | 1 | 2"},
		{`func main() { for { } }`, "spent 300"},
		{`func main() { a := make(2); b := a[0:1]; b = append(b, 7); print(a) }`, "done 5 | [nil, 7]"},
	} {
		is(t, "P16.6: "+e.text, ended(machine.Text(e.text, 300, 10)), e.must)
		for fuel := range 12 {
			asWalk(t, e.text, fuel, 3)
		}
		asWalk(t, e.text, 300, 10, 1)
	}
}
