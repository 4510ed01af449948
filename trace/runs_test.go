package trace_test

import (
	"fmt"
	"strings"
	"testing"

	"guise/api"
	"guise/code"
	"guise/trace"
)

// What is told of runs that end in each way: all up to there, and nothing of the step in which they ended.
func TestEnds(t *testing.T) {
	for _, c := range []struct {
		s           string
		fuel, depth int
		end         int
		must        string
	}{
		{"func main() { }", 1, 1, api.Done, "2@0:main 3@0:main"},
		{"func main() { }", 0, 1, api.Spent, ""},
		{"var x = print(5)\nfunc main() { }", 9, 1, api.Done, "1@0 7@0:5 2@0:main 3@0:main"},
		{"var x = print(5)\nfunc main() { }", 1, 1, api.Spent, "1@0 7@0:5"},
		{"var x = panic(5)\nfunc main() { }", 9, 1, api.Panic, "1@0 5@0:5"},
		{"func main() { panic([1]) }", 9, 1, api.Panic, "2@0:main 1@14 5@14:[1]"},
		{"func main() { defer print(2); panic(1) }", 9, 1, api.Panic, "2@0:main 1@14 4@14 1@30 5@30:1 7@30:2"},
		{"func main() { defer panic(2); panic(1) }", 9, 1, api.Panic, "2@0:main 1@14 4@14 1@30 5@30:1 5@30:2"},
		{"func main() { x := 1 / 0 }", 9, 1, api.Panic, `2@0:main 1@14 5@14:&fault{word: "divide", more: ""}`},
		{"func main() { main(1) }", 9, 2, api.Panic, `2@0:main 1@14 2@18:main 5@14:&fault{word: "arguments", more: "1 for 0"}`},
		{"func main() { main(1) }", 9, 1, api.Overflow, "2@0:main 1@14"},
		{"func main() { main() }", 99, 2, api.Overflow, "2@0:main 1@14 2@18:main 1@14"},
		{"func main() { main() }", 3, 9, api.Spent, "2@0:main 1@14 2@18:main"},
		{"func main() { defer main(); panic(1) }", 99, 1, api.Overflow, "2@0:main 1@14 4@14 1@28 5@28:1"},
		{"func main() { for { } }", 5, 1, api.Spent, "2@0:main 1@14"},
		{"func main() { for { print(1) } }", 5, 1, api.Spent, "2@0:main 1@14 1@20 7@20:1"},
		{"func main() { for i in 17 { make(65536) } }", 99, 1, api.Full, "2@0:main 1@14" + strings.Repeat(" 1@28", 17)},
		{"func main() { for i in 16 { make(65536) }; defer print(); print(1) }", 99, 1, api.Full, "2@0:main 1@14" + strings.Repeat(" 1@28", 16) + " 1@43 4@43 1@58"},
		{"func main() { for i in 16 { make(65536) }; 5() }", 99, 1, api.Full, "2@0:main 1@14" + strings.Repeat(" 1@28", 16) + " 1@43"},
	} {
		if o := outcome(t, c.s, c.fuel, c.depth); o.End != c.end {
			t.Errorf("%s ends by %d", c.s, o.End)
		}
		is(t, "R1: "+c.s, texts(ran(t, c.s, c.fuel, c.depth)), c.must)
	}
}

// Hand-made code: places and names are those of its instructions.
func TestMachineOfAnyCode(t *testing.T) {
	_, table := compiled(t, parsed(t, "func main() { }"))
	begin := func(l ...code.Inst) code.Program {
		return code.Program{Funcs: []code.Func{{Around: -1, Code: l}, {Around: -1, Name: "T.m", Code: []code.Inst{{Op: code.OpStep, At: 60000}, {Op: code.OpNil}, {Op: code.OpReturn}}}}}
	}
	null, ret, step := code.Inst{Op: code.OpNil}, code.Inst{Op: code.OpReturn}, code.Inst{Op: code.OpStep, At: 7}
	is(t, "R1: nothing is told", texts(played(t, begin(null, ret), table, 5, 5)), "")
	is(t, "R1: steps", texts(played(t, begin(step, null, ret), table, 1, 5)), "1@7")
	is(t, "R1: no fuel", texts(played(t, begin(step, null, ret), table, 0, 5)), "")
	is(t, "R1: a panic", texts(played(t, begin(step, null, code.Inst{Op: code.OpUnary, Text: "-"}, ret), table, 5, 5)), `1@7 5@7:&fault{word: "operand", more: "- nil"}`)
	is(t, "R1: without an end", texts(played(t, begin(step, code.Inst{Op: code.OpJump}), table, 3, 5)), "1@7 1@7 1@7")
	is(t, "R1: a call", texts(played(t, begin(code.Inst{Op: code.OpLiteral, A: 1}, code.Inst{Op: code.OpCall, At: 9}, ret), table, 3, 1)), "2@9:T.m 1@60000 3@9:T.m")
	is(t, "R1: a call that is laid down", texts(played(t, begin(code.Inst{Op: code.OpLiteral, A: 1}, code.Inst{Op: code.OpDefer, At: 9}, null, ret), table, 3, 1)), "4@9 2@9:T.m 1@60000 3@9:T.m")
}

// Places are told as they stand in the tree, whatever they are.
func TestAnyPlaces(t *testing.T) {
	n := parsed(t, "func main() { print(1) }")
	for _, at := range []int{-1, 60001, -1 << 63, 1<<63 - 1} {
		n.Kids[0].Kids[1].Kids[0].At = at
		is(t, "R1", texts(walked(t, n, 9, 9)), fmt.Sprint("2@0:main 1@", at, " 7@", at, ":1 3@0:main"))
	}
}

// Each fuel from none to enough: less fuel tells a beginning, and each step that was counted shows.
func TestEachFuel(t *testing.T) {
	s := "var v = f(1)\nfunc f(a) { defer g(); if a > 0 { panic(a) }; return a }\nfunc g() { print(recover()) }\nfunc main() { f(0); f(v); f(2) }"
	whole := ran(t, s, api.MaxFuel, api.MaxDepth)
	steps := outcome(t, s, api.MaxFuel, api.MaxDepth).Steps
	for fuel := range steps + 2 {
		part := ran(t, s, fuel, 9)
		begun := 0
		for _, e := range part {
			if e.Kind == 1 || e.Kind == 2 {
				begun++
			}
		}
		if i := trace.Differ(part, whole); begun != min(fuel, steps) || fuel < steps && i != len(part) || fuel >= steps && i != -1 {
			t.Errorf("R1: with the fuel %d of %d: %d steps are told, and they part at %d: %s", fuel, steps, begun, i, texts(part))
		}
	}
}

// Each depth from 1 on: the call that is one too deep is not told.
func TestEachDepth(t *testing.T) {
	s := "func f(n) { if n > 0 { f(n - 1) } }\nfunc main() { f(6) }"
	for depth := 1; depth < 11; depth++ {
		l := ran(t, s, 1000, depth)
		calls, ended := strings.Count(kinds(l), "2"), strings.Count(kinds(l), "3")
		if must := min(depth, 8); calls != must || depth < 8 && ended != 0 || depth >= 8 && ended != 8 {
			t.Errorf("R1: with the depth %d %d calls begin, %d end", depth, calls, ended)
		}
	}
	s = "func main() { main() }"
	for _, depth := range []int{1, 2, 999, 1000} {
		if l := ran(t, s, api.MaxFuel, depth); len(l) != 2*depth {
			t.Errorf("R1: with the depth %d: %d events", depth, len(l))
		}
	}
}

// Fuel 0, the greatest one.
func TestFuels(t *testing.T) {
	s := "func main() { for { } }"
	if l := ran(t, s, 0, 5); len(l) != 0 {
		t.Errorf("R1: with no fuel: %s", texts(l))
	}
	is(t, "R1: with the greatest", texts(ran(t, s, api.MaxFuel, 5)), "2@0:main 1@14")
	is(t, "R1: with one less", texts(ran(t, s, api.MaxFuel-1, 5)), "2@0:main 1@14")
}

// Runs of just 200000 events, one fewer, one more, and many more.
func TestManyEvents(t *testing.T) {
	for _, turns := range []int{most - 4, most - 3, most - 2, most + 1000, 499000} {
		s := fmt.Sprintf("func main() { for i in %d { x := 1 } }", turns)
		n := parsed(t, s)
		all := watchedWalk(n, api.MaxFuel, 9)
		if len(all) != turns+3 {
			t.Fatalf("%d events", len(all))
		}
		l := ran(t, s, api.MaxFuel, 9)
		if len(l) != min(most, turns+3) || trace.Differ(l, all[:len(l)]) != -1 {
			t.Errorf("R1: of %d events %d are told, the first %d of them", len(all), len(l), trace.Differ(l, all))
		}
		if calls := trace.Calls(l); (calls == "1 main\n") != (turns+3 <= most) {
			t.Errorf("R4: %q of %d events", calls, len(l))
		}
	}
}

// Long runs with all kinds of events: walk's own, cut.
func TestManyEventsOfAllKinds(t *testing.T) {
	for _, s := range []string{
		"func f(i) { defer func() { r := recover(); if i % 500 == 0 { print(r) } }(); panic(i) }\nfunc main() { for i in 1000000 { f(i) } }",
		"func f(i) { return i }\nfunc main() { for { f(f(f(1))) } }",
		"func f(n) { if n > 0 { f(n - 1); f(n - 1) } }\nfunc main() { f(18) }",
		"func main() { for i in 150000 { defer panic(i) } }",
	} {
		n := parsed(t, s)
		all := watchedWalk(n, api.MaxFuel, 50)
		if len(all) <= most {
			t.Fatalf("%d events: %s", len(all), s)
		}
		if l := ran(t, s, api.MaxFuel, 50); len(l) != most || trace.Differ(l, all) != most {
			t.Errorf("R1: %d events, parting at %d: %s", len(l), trace.Differ(l, all), s)
		}
	}
}

// Texts of events: a value that is too long to be shown, a line that is long.
func TestLongTexts(t *testing.T) {
	l := ran(t, `func main() { s := "a"; for i in 16 { s += s }; print(s, s); defer func() { recover() }(); panic(s) }`, 100, 8)
	long := map[int]int{}
	for _, e := range l {
		long[e.Kind] = max(long[e.Kind], len(e.Text))
	}
	if long[7] != 131073 || long[5] != 2 || long[6] != 2 {
		t.Errorf("R1: texts of %v bytes", long)
	}
}
