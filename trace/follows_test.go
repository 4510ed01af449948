package trace_test

import (
	"fmt"
	"slices"
	"strings"
	"testing"

	"guise/api"
	"guise/trace"
	"guise/walk"
)

// Programs for what follows: with variables, loops, methods, literals, panics.
func programs() []string {
	return []string{
		"func main() { }",
		"func main() { f(3) }\nfunc f(n) { if n > 0 { f(n - 1); f(n - 1) } }",
		"var a = f(1)\nvar b = [a, f(2)]\nfunc f(n) { return func() { return n }() }\nfunc main() { print(a, b) }",
		"type T struct { x }\nfunc (t *T) inc() { t.x++ }\nfunc (t T) get() { return t.x }\nfunc main() { t := &T{x: 1}; for i in 3 { t.inc(); print(t.get()) }; defer t.inc(); defer T.get(*t) }",
		"type T struct { .P }\nprotocol P { m(0) }\ntype K = int\nfunc (k K) m() { return k }\nfunc main() { l := [T{P: K(1)}, T{P: T{P: K(2)}}]; for _, p in l { print(p.m(), p.(P).m(), T.m(p)) } }",
		"func main() { defer a(); defer b() }\nfunc a() { defer b(); b() }\nfunc b() { func() { defer func() { }() }() }",
		"func main() { defer func() { print(recover()) }(); f(3) }\nfunc f(n) { defer print(n); if n == 0 { panic(\"end\") }; f(n - 1) }",
		"func main() { for i in 3 { func() { defer func() { recover() }(); g(i) }() } }\nfunc g(i) { if i == 1 { panic(i) } }",
		"func main() { defer f(); panic(1) }\nfunc f() { defer g(); panic(2) }\nfunc g() { print(recover()); panic(3) }",
		"func main() { main() }",
		"func main() { for { } }",
		"func main() { x := []; for { x = append(x, x, x); f(x) } }\nfunc f(x) { }",
	}
}

// Walk and Machine do not differ, whatever the fuel and the depth are; and what the calls of a run look like.
func TestBothDoTheSame(t *testing.T) {
	for _, s := range programs() {
		n := parsed(t, s)
		p, table := compiled(t, n)
		o, _ := walk.Run(n, 400, 20)
		for fuel := range min(o.Steps, 60) + 2 {
			for _, depth := range []int{1, 2, 3, 20} {
				asPromised(t, s, n, p, table, fuel, depth)
			}
		}
		wantTree(t, s, asPromised(t, s, n, p, table, 400, 20), o)
		wantTree(t, s, asPromised(t, s, n, p, table, api.MaxFuel, 1000), api.Outcome{End: api.Spent})
	}
}

// Of a run that is Done, and has no panic, the events are a tree: each end is that of the innermost open call.
func TestRunsWithoutPanics(t *testing.T) {
	for _, s := range programs()[:6] {
		l := ran(t, s, 1000, 50)
		deepest, open := 0, 0
		for _, e := range l {
			switch e.Kind {
			case 2:
				open++
				deepest = max(deepest, open)
			case 3:
				open--
			}
		}
		got := depths(trace.Calls(l))
		if open != 0 || strings.Contains(trace.Calls(l), "!") || got[0] != 1 || slices.Max(got) != deepest {
			t.Errorf("R6: depths %v, the deepest %d: %s", got, deepest, s)
		}
	}
}

// Sums of Lines over one list behind another are the sums of both; each statement that is on a line counts once.
func TestSums(t *testing.T) {
	for _, s := range programs() {
		a, b := ran(t, s, 300, 20), ran(t, s, 7, 20)
		one, two, both := trace.Lines(s, a), trace.Lines(s, b), trace.Lines(s, slices.Concat(a, b))
		total := 0
		for i := range both {
			if both[i] != one[i]+two[i] {
				t.Errorf("R6: %v and %v are %v", one, two, both)
			}
			total += one[i]
		}
		if begun := strings.Count(kinds(a), "1"); total != begun {
			t.Errorf("R3: %d of %d statements count: %s", total, begun, s)
		}
		is(t, "R3: in another order", fmt.Sprint(trace.Lines(s, slices.Concat(b, a))), fmt.Sprint(both))
	}
}
