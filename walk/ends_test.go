package walk_test

import (
	"fmt"
	"strings"
	"testing"

	"guise/api"
	"guise/walk"
)

const counted = `
type T struct { a }
func (t T) m() { return 1 }
func (t *T) n(x) { return 2 }
type W struct { .P }
protocol P { m(0) }
func f() { }
func g(a) { return a }
func r(n) { if n > 0 { r(n - 1) } }
`

// Each row is Done, or a panic, with just so many steps: one for main, and those of its statements.
func TestSteps(t *testing.T) {
	for _, c := range []struct {
		s     string
		steps int
	}{
		{``, 1},
		{`x := 1`, 2}, {`x, ok := 1.(int)`, 2}, {`x := 1; x = 2`, 3}, {`x := 1; x, x = 1.(int)`, 3}, {`x := 1; x += 2; x++`, 4},
		{`{ }`, 1}, {`{ x := 1; { x = 2 } }`, 3},
		{`if true { }`, 2}, {`if true { f() } else { }`, 4}, {`if false { } else { }`, 2}, {`if false { } else { f() }`, 4},
		{`if false { } else if false { } else { }`, 3}, {`if false { } else if true { f() }`, 5}, {`if true { } else if true { }`, 2},
		{`for false { }`, 2}, {`for i in 3 { }`, 5}, {`for i in [1, 2] { }`, 4}, {`for i, c in "abc" { }`, 5}, {`for k in map{1: 2} { }`, 3}, {`for i in 0 { }`, 2},
		{`for { break }`, 4}, {`for i in 3 { continue }`, 8}, {`for i in 3 { if i == 1 { break } }`, 7},
		{`i := 0; for i < 2 { i++ }`, 7}, {`m := map{1: 1, 2: 2}; for k in m { delete(m, 2) }`, 5},
		{`switch 1 { case 1: f() }`, 4}, {`switch 1 { case 1: fallthrough; case 2: f() }`, 5}, {`switch { default: }`, 2}, {`switch 1 { case 1: break }`, 3},
		{`switch 1.(type) { case int, text: f() }`, 4}, {`switch x := 1.(type) { default: x = 2 }`, 3},
		{`return 1`, 2}, {`defer f()`, 3}, {`defer print(1)`, 2}, {`defer f(); defer f(); f()`, 7},
		{`f()`, 3}, {`x := g(g(1))`, 6}, {`x := int(1.5)`, 2}, {`len("a")`, 2}, {`print(show(1), typeof(2))`, 2}, {`x := append(make(1), 2)`, 2},
		{`x := func() { }`, 2}, {`func() { }()`, 3}, {`func() { f() }()`, 5},
		{`x := T{}.m()`, 4}, {`x := T{}.m; x()`, 5}, {`x := T.m; x(T{})`, 5}, {`(&T{}).n(1)`, 4}, {`W{P: T{}}.m()`, 4}, {`W.m(W{P: T{}})`, 4},
		{`x := (&fault{}).Error()`, 3}, {`panic(1)`, 2}, {`defer func() { recover() }(); panic(1)`, 5},
		{`f(1)`, 3}, {`5()`, 2}, {`nil(func)()`, 2}, {`g()`, 3}, {`W.m(1)`, 3}, {`(&fault{}).Error(1)`, 3}, {`nil(*fault).Error()`, 3}, {`defer f(1)`, 3}, {`defer nil(func)()`, 2}, {`defer 5()`, 2},
	} {
		s := counted + "func main() { " + c.s + " }"
		n := parsed(t, s)
		o, err := walk.Run(n, 1000, 10)
		if o.Steps != c.steps || o.End != api.Done && o.End != api.Panic {
			t.Errorf("W1: %s: %s, %d steps; must be %d", c.s, told(o, err), o.Steps, c.steps)
		}
		for fuel := range c.steps + 2 {
			p, perr := walk.Run(n, fuel, 10)
			if fuel >= c.steps && (told(p, perr) != told(o, err) || p.Steps != o.Steps) {
				t.Errorf("W5: %s: with the fuel %d %s; must be %s", c.s, fuel, told(p, perr), told(o, err))
			}
			if fuel < c.steps && (p.End != api.Spent || p.Steps != fuel || perr != nil) {
				t.Errorf("W1: %s: with the fuel %d: %s, %d steps", c.s, fuel, told(p, perr), p.Steps)
			}
		}
		asTheModel(t, s, n, 1000, 10)
	}
}

func TestStepsOfVariables(t *testing.T) {
	for s, steps := range map[string]int{
		"var a = 1\nfunc main() { }":                                     2,
		"var a = f()\nfunc f() { return 1 }\nfunc main() { }\nvar b = 2": 5,
		"var a = func() { return 1 }()\nfunc main() { print(a) }":        5,
	} {
		o, err := walk.Text(s, 100, 1)
		if o.Steps != steps || o.End != api.Done || err != nil {
			t.Errorf("W1: %s: %s, %d steps; must be %d", s, told(o, err), o.Steps, steps)
		}
	}
}

// The depth is how many calls may be run within one another, main's too.
func TestDepth(t *testing.T) {
	for _, c := range []struct {
		s     string
		depth int // with which it does not overflow, but with one less it does
	}{
		{`r(0)`, 2}, {`r(7)`, 9}, {`g(g(g(1)))`, 2}, {`f(); f()`, 2}, {`func() { f() }()`, 3}, {`defer f()`, 2}, {`defer func() { defer f() }()`, 3},
		{`x := T{}.m(); y := T{}.m; y()`, 2}, {`T.m(T{})`, 2}, {`(&fault{}).Error()`, 2}, {`W.m(W{P: T{}})`, 2}, {`W{P: W{P: T{}}}.m()`, 2}, {`defer func() { recover(); f() }(); panic(1)`, 3},
		{`r(998)`, 1000},
	} {
		n := parsed(t, counted+"func main() { "+c.s+" }")
		if o, err := walk.Run(n, 100000, c.depth); o.End != api.Done {
			t.Errorf("W1: %s, depth %d: %s", c.s, c.depth, told(o, err))
		}
		if o, err := walk.Run(n, 100000, c.depth-1); o.End != api.Overflow || err != nil {
			t.Errorf("W1: %s, depth %d: %s", c.s, c.depth-1, told(o, err))
		}
	}
	for _, s := range []string{`print(len("a"), int(1.0), typeof(show(nil)))`, `f := T{}.m`, `5()`, `nil(func)()`, `defer print(1)`, `defer recover()`} {
		if o, err := walk.Text(counted+"func main() { "+s+" }", 100, 1); o.End == api.Overflow {
			t.Errorf("W1: %s, depth 1: %s", s, told(o, err))
		}
	}
	o, _ := walk.Text("var x = f()\nfunc f() { return 1 }\nfunc main() { }", 100, 1)
	if o.End != api.Done {
		t.Errorf("W1: the variables' beginning is no call: %v", o)
	}
	o, _ = walk.Text("var x = f()\nfunc f() { return g() }\nfunc g() { }\nfunc main() { }", 100, 1)
	if o.End != api.Overflow || o.Steps != 4 {
		t.Errorf("W1: a call within one, at the variables' beginning: %v", o)
	}
}

// An overflow comes ahead of the arguments' number, and behind its step.
func TestOverflowFirst(t *testing.T) {
	for _, s := range []string{`f(1)`, `T{}.m(1)`, `T.m()`, `T.m(5)`, `W.m(W{})`, `nil(*fault).Error()`, `(&fault{}).Error(1)`, `defer f(1)`, `func(a) { }()`} {
		n := parsed(t, counted+"func main() { "+s+" }")
		o, err := walk.Run(n, 100, 1)
		if o.End != api.Overflow || o.Steps != 3 || err != nil {
			t.Errorf("00: %s with the depth 1: %s, %d steps", s, told(o, err), o.Steps)
		}
		if o, _ := walk.Run(n, 2, 1); o.End != api.Spent || o.Steps != 2 {
			t.Errorf("00: %s with the depth 1 and the fuel 2: %v", s, o)
		}
		if o, _ := walk.Run(n, 100, 2); o.End != api.Panic {
			t.Errorf("00: %s with the depth 2: %v", s, o)
		}
	}
}

// Nothing in the program sees these ends: nothing deferred is done, and what was told stays told.
func TestEndsAreNoPanics(t *testing.T) {
	for _, c := range []struct {
		s   string
		end int
	}{
		{`for { }`, api.Spent}, {`main()`, api.Overflow}, {`for { make(65536) }`, api.Full}, {`for { func() { defer caught(); for { } }() }`, api.Spent}, {`r(200)`, api.Overflow},
	} {
		s := counted + "func caught() { print(\"no\", recover()) }\nfunc h() { defer caught(); defer print(\"no\"); print(\"told\"); " + c.s + "; print(\"no\") }\nfunc main() { defer caught(); h() }"
		o, err := walk.Text(s, 5000, 100)
		if o.End != c.end || err != nil || strings.Contains(strings.Join(o.Out, " "), "no") || len(o.Out) == 0 || o.Out[0] != "told" {
			t.Errorf("00: %s: %s", c.s, told(o, err))
		}
		if c.end == api.Spent && o.Steps != 5000 {
			t.Errorf("W1: %s: %d steps", c.s, o.Steps)
		}
	}
}

// As deep as a program may be, and as many calls within one another as there may be, at once.
func TestDeepest(t *testing.T) {
	inner := "f(n - 1)"
	for range 26 {
		inner = "(1 + (" + inner + "))"
	}
	s := "func f(n) { if n == 0 { END }; return " + inner + " }\nfunc main() { print(f(990)) }"
	for end, must := range map[string]string{"return 0": "done: 25740", "panic(7)": "panic:  {7}", "for { }": "spent: ", "f(0)": "overflow: ", "for { make(65536) }": "full: "} {
		o, err := walk.Text(strings.Replace(s, "END", end, 1), 100000, 1000)
		if got := told(o, err); got != must {
			t.Errorf("W4: %s: %s; must be %s", end, got, must)
		}
	}
}

// All fuel that there may be.
func TestMostFuel(t *testing.T) {
	for s, must := range map[string]string{
		"func main() { for i in 999998 { } }": "done: ",
		"func main() { for i in 999999 { } }": "spent: ",
		"func f() { defer recovered(); panic(1) }\nfunc recovered() { recover() }\nfunc main() { for { f() } }": "spent: ",
	} {
		o, err := walk.Text(s, api.MaxFuel, 1000)
		if got := told(o, err); got != must || o.Steps != api.MaxFuel {
			t.Errorf("W1: %s: %s, %d steps; must be %s", s, got, o.Steps, must)
		}
	}
}

func TestShownTooLong(t *testing.T) {
	for size, long := range map[int]bool{65534: false, 65535: true, 65536: true} {
		s := fmt.Sprintf(`func main() { s := "a"; for i in 16 { s += s }; panic(s[:%d]) }`, size)
		_, err := walk.Text(s, 100, 10)
		p, is := err.(*api.Panicked)
		if !is || (p.Shown == "..") != long || !long && len(p.Shown) != size+2 || p.Cause != nil {
			t.Errorf("W1: a panic with a text of %d bytes: %s", size, brief(fmt.Sprint(err)))
		}
	}
	for size, must := range map[int]string{65536: strings.Repeat("a", 65536), 65535: strings.Repeat("a", 65535)} {
		s := fmt.Sprintf(`func main() { s := "a"; for i in 16 { s += s }; panic(&fault{word: s[:%d], more: [s]}) }`, size)
		_, err := walk.Text(s, 100, 10)
		p, is := err.(*api.Panicked)
		if !is || p.Shown != ".." {
			t.Fatalf("W1: a fault with long texts: %s", brief(fmt.Sprint(err)))
		}
		if f, is := p.Cause.(*api.Fault); !is || f.Word != must || f.More != ".." {
			t.Errorf("W1: the cause of a fault with long texts: %s", brief(fmt.Sprint(p.Cause)))
		}
	}
}

func TestCauses(t *testing.T) {
	declared := "type K = text\ntype T struct { .fault }\nfunc (t *T) m() { return t }\ntype U struct { .*fault }"
	wantRows(t, "W1", declared, []row{
		{`panic(&fault{word: "w", more: "m"})`, "panic:  <w|m>"},
		{`panic(&fault{word: 5, more: nil})`, "panic:  <5|nil>"},
		{`panic(&fault{word: ["a"], more: K("b")})`, `panic:  <["a"]|K("b")>`},
		{`panic(fault{word: "w"})`, `panic:  {fault{word: "w", more: nil}}`},
		{`panic(nil(*fault))`, "panic:  {nil(*fault)}"},
		{`panic(&T{})`, "panic:  {&T{fault: fault{word: nil, more: nil}}}"},
		{`panic(&U{fault: &fault{word: 1}})`, "panic:  {&U{fault: &fault{word: 1, more: nil}}}"},
		{`panic((&U{fault: &fault{word: 1}}).fault)`, "panic:  <1|nil>"},
		{`defer func() { f := recover(); f.word = "other"; f.more = 3; panic(f) }(); print([][0])`, "panic:  <other|3>"},
		{`panic("fault")`, `panic:  {"fault"}`}, {`panic(false)`, "panic:  {false}"}, {`panic([nil])`, "panic:  {[nil]}"},
	})
}
