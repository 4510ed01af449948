package trace_test

import (
	"fmt"
	"math"
	"strings"
	"testing"

	"guise/api"
	"guise/code"
	"guise/machine"
	"guise/names"
	"guise/trace"
	"guise/tree"
	"guise/types"
	"guise/walk"
)

// wantNoWalk: Walk answers that error, which is walk.Run's, new each time, and no events.
func wantNoWalk(t testing.TB, n api.Node, fuel, depth int, must string) {
	t.Helper()
	l, err := trace.Walk(n, fuel, depth)
	_, again := trace.Walk(n, fuel, depth)
	_, of := walk.Run(n, fuel, depth)
	if told(err) != must || told(of) != must || len(l) != 0 {
		t.Errorf("R1: Walk: %s, and %d events; walk.Run: %s; must be %s", told(err), len(l), told(of), must)
	}
	if err != nil && err == again {
		t.Error("P2: an error is not new")
	}
}

// wantNoMachine: Machine answers that error, new each time, and no events.
func wantNoMachine(t testing.TB, p code.Program, table *types.Table, fuel, depth int, must string) {
	t.Helper()
	l, err := trace.Machine(p, table, fuel, depth)
	_, again := trace.Machine(p, table, fuel, depth)
	if told(err) != must || len(l) != 0 {
		t.Errorf("R1: Machine: %s, and %d events; must be %s", told(err), len(l), must)
	}
	if err != nil && err == again {
		t.Error("P2: an error is not new")
	}
	if fuel >= 0 && fuel <= api.MaxFuel {
		if _, of := machine.New(p, table, depth); told(of) != must {
			t.Errorf("R1: machine.New: %s; must be %s", told(of), must)
		}
	}
}

var (
	wrongFuels  = []int{-1, 1000001, math.MinInt, math.MaxInt, -1 << 40, 1 << 32}
	wrongDepths = []int{0, -1, 1001, math.MinInt, math.MaxInt, 1 << 32}
)

const noArg = `1 at 0 ""`

// Limits that may not be are told ahead of all else.
func TestLimitsOfWalk(t *testing.T) {
	for _, n := range []api.Node{parsed(t, "func main() { print(1) }"), {}, {Kind: api.NInt, At: 5, Text: "5"}, {Kind: api.NProgram, At: 7}, parsed(t, "func main() { print(x) }"), parsed(t, "func main() { }\ntype T struct { .T }")} {
		for _, fuel := range wrongFuels {
			wantNoWalk(t, n, fuel, 5, noArg)
			wantNoWalk(t, n, fuel, 0, noArg)
		}
		for _, depth := range wrongDepths {
			wantNoWalk(t, n, 5, depth, noArg)
			wantNoWalk(t, n, 0, depth, noArg)
			wantNoWalk(t, n, api.MaxFuel, depth, noArg)
		}
	}
	n := parsed(t, "func main() { print(1) }")
	for _, fuel := range []int{0, 1, 999999, 1000000} {
		for _, depth := range []int{1, 2, 999, 1000} {
			walked(t, n, fuel, depth)
		}
	}
}

func TestNoPrograms(t *testing.T) {
	endless := func(kind int) api.Node {
		kids := make([]api.Node, 1)
		kids[0] = api.Node{Kind: kind, Kids: kids}
		return kids[0]
	}
	long := strings.Repeat("x", 70000)
	for _, c := range []struct {
		n    api.Node
		must string
	}{
		{api.Node{}, `20 at 0 ""`},
		{api.Node{Kind: api.NBlock, At: -9}, `20 at -9 ""`},
		{api.Node{Kind: api.NInt, Text: "no int", At: 3}, `20 at 3 "no int"`},
		{api.Node{Kind: api.NText, Text: long, At: 1}, `20 at 1 "` + long + `"`},
		{api.Node{Kind: -1, Text: "t", Kids: []api.Node{{Kind: 1000}}}, `20 at 0 "t"`},
		{endless(api.NBlock), `20 at 0 ""`},
		{endless(api.NProgram), told(tree.Right(endless(api.NProgram)))},
	} {
		wantNoWalk(t, c.n, 10, 10, c.must)
	}
}

// Each thing that may be wrong with a program, and of several the first one.
func TestWrongPrograms(t *testing.T) {
	for _, c := range []struct {
		s    string
		must api.Errno
	}{
		{"func main() { x := 1; x := 2 }", api.ErrTwice},
		{"func main() { print(x) }\ntype T struct { .T }", api.ErrUnknown},
		{"func main() { print = 1 }", api.ErrUse},
		{"func main() { break }", api.ErrLabel},
		{"func f() { }\ntype T struct { .T }", api.ErrMain},
		{"func main(a) { }", api.ErrMain},
		{"func main() { }\ntype T struct { .T }", api.ErrCycle},
		{"func main() { }\ntype T = K", api.ErrType},
		{"func main() { }\nfunc (i int) f() { }", api.ErrReceiver},
	} {
		n := parsed(t, c.s)
		_, err := names.Resolve(n)
		if err == nil {
			_, err = types.Make(n)
		}
		if w, is := err.(*api.Wrong); !is || w.Code != c.must {
			t.Fatalf("%s: %v", c.s, err)
		}
		wantNoWalk(t, n, 10, 10, told(err))
	}
	n := parsed(t, "func main() { print(x) }\nvar y = 1\ntype T struct { .T }")
	n.Kids[1].Kids[0].Text = "01" // a tree that is not right comes ahead of names and types
	wantNoWalk(t, n, 10, 10, told(tree.Right(n)))
	many := parsed(t, "func main() { }")
	for len(many.Kids) < api.MaxNodes {
		many.Kids = append(many.Kids, api.Node{Kind: api.NVar, Text: fmt.Sprint("x", len(many.Kids)), Kids: []api.Node{{Kind: api.NInt, Text: "1"}}})
	}
	wantNoWalk(t, many, 10, 10, told(tree.Right(many)))
}

// A panic of the program's, whatever its cause says, is no error.
func TestPanicsAreNoErrors(t *testing.T) {
	for _, s := range []string{
		"func main() { panic(1) }",
		"func main() { panic(nil) }",
		"func main() { x := 1 / 0 }",
		"func main() { panic(&fault{word: \"guise: error 1\", more: \"1\"}) }",
		"func main() { panic(&fault{}) }",
		"var x = [][0]\nfunc main() { }",
	} {
		if _, err := walk.Run(parsed(t, s), 50, 5); err == nil {
			t.Errorf("%s ends without a panic", s)
		}
		if l := ran(t, s, 50, 5); l[len(l)-1].Kind != 5 {
			t.Errorf("R1: %s: %s", s, texts(l))
		}
	}
}

// of is code of one function.
func of(l ...code.Inst) code.Program {
	return code.Program{Funcs: []code.Func{{Around: -1, Code: l}}}
}

func TestLimitsOfMachine(t *testing.T) {
	_, table := compiled(t, parsed(t, "func main() { }"))
	null, ret := code.Inst{Op: code.OpNil}, code.Inst{Op: code.OpReturn}
	for _, p := range []code.Program{of(null, ret), of(ret), {}, of(code.Inst{Op: code.OpStruct, Text: "T"}, ret)} {
		for _, fuel := range wrongFuels {
			for _, depth := range []int{5, 0, 1001} {
				wantNoMachine(t, p, table, fuel, depth, noArg)
			}
		}
		for _, depth := range wrongDepths {
			for _, fuel := range []int{0, 5, api.MaxFuel} {
				wantNoMachine(t, p, table, fuel, depth, noArg)
			}
		}
	}
	for _, fuel := range []int{0, 1, 999999, 1000000} {
		for _, depth := range []int{1, 2, 999, 1000} {
			played(t, of(null, ret), table, fuel, depth)
		}
	}
}

// Code that is not right, types that are not there, methods that are lacking: in this order.
func TestWrongCode(t *testing.T) {
	_, table := compiled(t, parsed(t, "type A struct { a }\nfunc (a A) m() { }\nfunc (a *A) k(x) { }\nfunc main() { }"))
	null, ret := code.Inst{Op: code.OpNil}, code.Inst{Op: code.OpReturn}
	unknown := code.Inst{Op: code.OpStruct, Text: "T"}
	with := func(p code.Program, name string, params int, l ...code.Inst) code.Program {
		p.Funcs = append(p.Funcs[:len(p.Funcs):len(p.Funcs)], code.Func{Name: name, Around: -1, Params: params, Slots: params, Code: l})
		return p
	}
	both := with(with(of(null, ret), "A.m", 1, null, ret), "A.k", 2, null, ret)
	for _, c := range []struct {
		p    code.Program
		must string
	}{
		{code.Program{}, `22 at 0 ""`},
		{of(ret), `130 at 0 "0"`},
		{of(), `130 at 0 ""`},
		{of(null, ret, null), `130 at 0 "2"`},
		{with(of(unknown, ret), "f", 0, ret), `130 at 1 "0"`},
		{of(unknown, ret), `130 at 0 "0"`},
		{with(both, "f", 0, null, ret, unknown, ret), `130 at 3 "2"`},
		{with(both, "f", 0, null, code.Inst{Op: code.OpAssert, Text: "P"}, ret), `130 at 3 "1"`},
		{with(both, "f", 0, code.Inst{Op: code.OpNilOf, Text: "A"}, ret), `130 at 3 "0"`},
		{with(both, "f", 0, code.Inst{Op: code.OpExpression, Text: "B m"}, ret), `130 at 3 "0"`},
		{with(both, "f", 0, null, code.Inst{Op: code.OpConvert, A: api.KInt, Text: "A"}, ret), `130 at 3 "1"`},
		{of(null, ret), `130 at 0 "A.k"`},
		{with(of(null, ret), "A.k", 2, null, ret), `130 at 0 "A.m"`},
		{with(of(null, ret), "A.m", 1, null, ret), `130 at 0 "A.k"`},
		{with(with(of(null, ret), "A.m", 1, null, ret), "A.k", 1, null, ret), `130 at 0 "A.k"`},
	} {
		for _, fuel := range []int{0, 5, api.MaxFuel} {
			wantNoMachine(t, c.p, table, fuel, 5, c.must)
		}
		wantNoMachine(t, c.p, table, -1, 5, noArg)
		wantNoMachine(t, c.p, table, 5, 0, noArg)
	}
	played(t, both, table, 5, 5)
}
