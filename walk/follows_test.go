package walk_test

import (
	"fmt"
	"slices"
	"strings"
	"testing"

	"guise/api"
	"guise/walk"
)

// grown are programs by chance that may be.
func grown(t testing.TB, seed uint64, count int, each func(s string, n api.Node)) {
	t.Helper()
	g := growing(dice(seed))
	for range count {
		s := g.program()
		if n, may := mayBe(t, s); may {
			each(s, n)
		}
	}
}

// With less fuel, or less depth, a run begins alike; one that has ended so ends so with all that is more.
func TestMoreFuelAndDepth(t *testing.T) {
	r := dice(7)
	grown(t, 21, 120, func(s string, n api.Node) {
		all, allErr := walk.Run(n, 2000, 40)
		for range 6 {
			fuel, depth := r.IntN(2*all.Steps+2), 40
			if fuel > 2000 {
				fuel = 2000
			}
			if r.IntN(3) == 0 {
				depth = 1 + r.IntN(8)
			}
			part, err := walk.Run(n, fuel, depth)
			if len(part.Out) > len(all.Out) || !slices.Equal(part.Out, all.Out[:len(part.Out)]) || part.Steps > all.Steps {
				t.Fatalf("W5: with the fuel %d and the depth %d of\n%s\n%s; with more %s", fuel, depth, s, told(part, err), told(all, allErr))
			}
			ended := part.End == api.Done || part.End == api.Panic || part.End == api.Full
			if (ended || depth == 40 && fuel >= all.Steps) && (told(part, err) != told(all, allErr) || part.Steps != all.Steps) {
				t.Fatalf("W5: with the fuel %d and the depth %d of\n%s\n%s, %d steps; with more %s, %d", fuel, depth, s, told(part, err), part.Steps, told(all, allErr), all.Steps)
			}
			if part.End == api.Spent && part.Steps != fuel || depth == 40 && fuel < all.Steps && part.End != api.Spent {
				t.Fatalf("W1: with the fuel %d of\n%s\n%s, %d steps", fuel, s, told(part, err), part.Steps)
			}
		}
	})
}

// Who watches changes nothing; calls are ended by their 3, by a panic, or with the run; a recover is told only behind a panic.
func TestWatchedOrNot(t *testing.T) {
	r := dice(8)
	grown(t, 22, 250, func(s string, n api.Node) {
		fuel, depth := 1+r.IntN(400), 1+r.IntN(20)
		var events []api.Event
		o, err := walk.Run(n, fuel, depth)
		p, perr := walk.Watch(n, fuel, depth, func(e api.Event) { events = append(events, e) })
		if told(o, err) != told(p, perr) || o.Steps != p.Steps {
			t.Fatalf("W6: %s\n%s; watched %s", s, told(o, err), told(p, perr))
		}
		balanced(t, s, events, p)
	})
}

func balanced(t *testing.T, s string, events []api.Event, o api.Outcome) {
	t.Helper()
	var open []api.Event
	var lines []string
	panics, steps := 0, 0
	for _, e := range events {
		switch e.Kind {
		case 1:
			steps++
		case 2:
			steps++
			open = append(open, e)
		case 3:
			for len(open) > 0 && (open[len(open)-1].At != e.At || open[len(open)-1].Text != e.Text) {
				open = open[:len(open)-1]
				if panics == 0 {
					t.Fatalf("W6: %s\na call without an end, and no panic: %s", s, eventTexts(s, events))
				}
			}
			if len(open) == 0 {
				t.Fatalf("W6: %s\nan end without its call: %s", s, eventTexts(s, events))
			}
			open = open[:len(open)-1]
		case 5:
			panics++
		case 6:
			if panics == 0 {
				t.Fatalf("W6: %s\na recover without a panic: %s", s, eventTexts(s, events))
			}
		case 7:
			lines = append(lines, e.Text)
		}
	}
	if !slices.Equal(lines, o.Out) || steps > o.Steps || o.End == api.Done && panics == 0 && len(open) > 0 {
		t.Fatalf("W6: %s\n%v, of which these were told: %s", s, o, eventTexts(s, events))
	}
}

// What asserts: each value against each type, with one value, with two, and by a switch.
func TestAssertionsAgree(t *testing.T) {
	values := []string{"nil", "1", "K(1)", `"a"`, "1.5", "true", "[]", "L([])", "nil(L)", "map{}", "nil(map)", "f", "nil(func)", "T{}", "&T{}", "nil(*T)", "E{}", "&E{}", "nil(*E)", "U{}", "&U{}", "nil(*U)", "W{}", "&W{}", "W{P: K(1)}", "fault{}", "&fault{}", "nil(*fault)"}
	wants := []string{"int", "K", "text", "float", "bool", "list", "L", "map", "func", "any", "T", "*T", "E", "*E", "U", "*U", "W", "*W", "fault", "*fault", "P", "Q", "R", "error"}
	declared := `
type K = int
type L = list
protocol P { m(0) }
protocol Q { P; n(1) }
protocol R { m(1) }
type T struct { a }
type E struct { .T; .*U }
type U struct { u }
type W struct { .P }
func (k K) m() { }
func (t T) m() { }
func (t *T) n(x) { }
func (u U) m(x) { }
func f() { }
func one(g) { defer func() { recover() }(); g(); return "yes" }
`
	holds := map[string]int{}
	for _, v := range values {
		for _, w := range wants {
			s := declared + fmt.Sprintf(`func main() { v := %s; x, ok := v.(%s); print(ok, x == nil); print(one(func() { x := v.(%s) }) == "yes"); switch v.(type) { case %s: print(true); default: print(false) }; switch y := v.(type) { default: print(false); case nil: print(false); case %s: print(true) } }`, v, w, w, w, w)
			o, err := walk.Text(s, 1000, 10)
			must := "done: true false|true|true|true"
			if len(o.Out) > 0 && strings.HasPrefix(o.Out[0], "false") {
				must = "done: false true|false|false|false"
			} else {
				holds[v]++
			}
			if got := told(o, err); got != must {
				t.Errorf("W7: %s as %s: %s", v, w, got)
			}
		}
	}
	for v, must := range map[string]int{"nil": 0, "1": 2, "K(1)": 3, "T{}": 3, "&T{}": 4, "nil(*T)": 4, "E{}": 2, "U{}": 3, "W{}": 3, "&W{}": 3, "fault{}": 2, "nil(*fault)": 3, "nil(func)": 2} {
		if holds[v] != must {
			t.Errorf("W7: %s holds %d of them, must be %d", v, holds[v], must)
		}
	}
}

// The same of types by chance; and a switch takes the first case whose assertion holds, in whatever order they stand.
func TestAssertionsByChance(t *testing.T) {
	g := growing(dice(24))
	held := 0
	for range 25 {
		g.program()
		declared := g.types() + g.methodsOf(func([]grownVariable) string { return "{ }" }) + "func one(g) { defer func() { recover() }(); g(); return true }\n"
		var out strings.Builder
		for _, v := range []string{"nil", "1", "K(1)", "S(\"\")", "L([])", "nil(L)", "A{}", "&A{}", "nil(*C)", "C{}", "&D{}", "D{}", "nil(*E)", "E{}", "&W{}", "W{}"} {
			out.WriteString("v := " + v + "; w := -1; ")
			cases, types := "", []string{}
			for i := range 6 {
				want := g.typeName()
				types = append(types, want)
				cases += fmt.Sprintf("case %s: s = %d; ", want, i)
			}
			for i, want := range types {
				fmt.Fprintf(&out, "{ x, ok := v.(%s); if ok { print(\"held\") }; if ok && w < 0 { w = %d }; p := one(func() { y := v.(%s) }) == true; q := false; switch v.(type) { case %s: q = true }; if ok != p || ok != q || ok == (x == nil) { print(\"differ\", %d) } }; ", want, i, want, want, i)
			}
			out.WriteString("s := -1; switch v.(type) { " + cases + "}; if s != w { print(\"first\", s, w) }; ")
			s := declared + "func main() { " + out.String() + "}"
			if _, may := mayBe(t, s); !may {
				t.Fatalf("no program: %s", s)
			}
			o, err := walk.Text(s, 1000, 10)
			held += len(o.Out)
			if got := told(o, err); strings.ReplaceAll(strings.ReplaceAll(got, "held", ""), "|", "") != "done: " {
				t.Fatalf("W7: %s of\n%s", got, s)
			}
			out.Reset()
		}
	}
	if held < 100 {
		t.Errorf("only %d assertions held by chance", held)
	}
}

// What holds a protocol has its methods; a pointer to none is told to them.
func TestWhatHoldsCanBeCalled(t *testing.T) {
	declared := `
protocol P { m(0); n(1) }
type T struct { a }
func (t *T) m() { return t == nil(*T) }
func (t *T) n(x) { return [t == nil, x] }
type E struct { .*T }
type D struct { .E }
type W struct { .P }
`
	wantRows(t, "W7", declared, []row{
		{`p := nil(*T); x, ok := p.(P); print(ok, x == nil, x.m(), x.n(5), p == nil)`, "done: true false true [false, 5] false"},
		{`for i, v in [&T{}, nil(*T), E{}, &E{}, E{T: &T{}}, D{}, &D{}, W{P: nil(*T)}, &W{P: D{}}] { x, ok := v.(P); print(i, ok, x.m(), x.n(i)) }`, "done: 0 true false [false, 0]|1 true true [false, 1]|2 true true [false, 2]|3 true true [false, 3]|4 true false [false, 4]|5 true true [false, 5]|6 true true [false, 6]|7 true true [false, 7]|8 true true [false, 8]"},
		{`l := [nil(*T)]; m := map{1: nil(*T), nil(*T): 2}; e := E{}; f := func(x) { return x }; print(l[0] == nil, m[1] == nil, m[nil(*T)], e.T == nil, f(l[0]).m(), e.T.m(), m[1].m(), l[0] == m[1])`, "done: false false 2 false true true true true"},
	})
}

// Runs know nothing of one another; the same run is the same.
func TestTheSameAgain(t *testing.T) {
	grown(t, 23, 60, func(s string, n api.Node) {
		o, err := walk.Run(n, 300, 20)
		inner := false
		p, perr := walk.Watch(n, 300, 20, func(api.Event) {
			if !inner {
				inner = true
				walk.Run(n, 100, 5)
				walk.Text("func main() { for { make(65536) } }", 100, 5)
			}
		})
		q, qerr := walk.Run(n, 300, 20)
		if told(o, err) != told(p, perr) || told(o, err) != told(q, qerr) || o.Steps != p.Steps || o.Steps != q.Steps {
			t.Errorf("P4: %s\n%s; %s; %s", s, told(o, err), told(p, perr), told(q, qerr))
		}
	})
}

// Several goroutines may play one tree.
func TestAtOneTime(t *testing.T) {
	n := parsed(t, methods+"func main() { x := K(1); for i in 30 { x = W{P: x} }; for i in 200 { print(i, x.get(), B{}.get(), 5.(K)) } }")
	must := told(walk.Run(n, 1000, 20))
	done := make(chan string)
	for range 6 {
		go func() { done <- told(walk.Run(n, 1000, 20)) }()
	}
	for range 6 {
		if got := <-done; got != must {
			t.Errorf("P4: %s; must be %s", got, must)
		}
	}
}
