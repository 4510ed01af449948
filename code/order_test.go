package code_test

import (
	"fmt"
	"math"
	"testing"

	"guise/api"
	"guise/code"
)

// fault is something that is wrong with a program, and what is told of it.
type fault struct {
	what string
	do   func(p *code.Program)
	must string
}

// sound is a program that is right, with four functions, into each of which faults can be laid.
func sound() code.Program {
	l := func() []code.Inst { return []code.Inst{step, null, pop, null, ret} }
	p := program(beginning(l()...), declared("f", l()...), literal(1, nil, l()...), declared("h", l()...))
	for k := range p.Funcs {
		p.Funcs[k].Slots = 3
	}
	p.Globals = []string{"a", "b"}
	return p
}

func manyMore(p *code.Program) {
	for range api.MaxNodes {
		p.Funcs = append(p.Funcs, declared("x", ret))
	}
}

// faults are wrong things of all five points, in the order in which they are asked.
func faults() []fault {
	all := []fault{
		{"too many functions", manyMore, "22 0"},
		{"too many variables", func(p *code.Program) { p.Globals = append(p.Globals, manyNames(api.MaxNodes)...) }, "22 0"},
		{"too many instructions", func(p *code.Program) { p.Funcs[3].Code = append(p.Funcs[3].Code, times(api.MaxCode, ret)...) }, "22 0"},
		{"too many slots", func(p *code.Program) { p.Funcs[1].Slots = api.MaxNodes + 1 }, "22 1"},
		{"too many taken", func(p *code.Program) { p.Funcs[2].Taken = make([]int, api.MaxNodes+1) }, "22 2"},
		{"too many slots, of the last one", func(p *code.Program) { p.Funcs[3].Slots = api.MaxNodes + 1 }, "22 3"},
		{"a variable that has no name", func(p *code.Program) { p.Globals[0] = "if" }, "130 0"},
		{"a variable twice", func(p *code.Program) { p.Globals[1] = p.Globals[0] }, "130 0"},
	}
	for k := range 4 {
		all = append(all, fault{fmt.Sprint("parameters of ", k), func(p *code.Program) { p.Funcs[k].Params = -1 }, wrong(api.ErrCode, k, "")})
	}
	for k := range 4 {
		for i := range 5 {
			all = append(all, fault{fmt.Sprintf("the place at %d of %d", i, k), func(p *code.Program) { p.Funcs[k].Code[i].At = -1 }, wrongCode(k, i)})
		}
		all = append(all, fault{fmt.Sprint("no return at the end of ", k), func(p *code.Program) { p.Funcs[k].Code = append(p.Funcs[k].Code, null) }, wrongCode(k, 5)})
	}
	for k := range 4 {
		for i := range 4 {
			all = append(all, fault{fmt.Sprintf("nothing to put at %d of %d", i, k), func(p *code.Program) { p.Funcs[k].Code[i].Op = code.OpPut }, wrongCode(k, i)})
		}
	}
	return all
}

// Of two wrong things the one is told that is asked first: by its point, then by its function, then by its instruction.
func TestTwoWrongThings(t *testing.T) {
	wantProgram(t, "nothing wrong", sound(), "ok")
	all := faults()
	for i, a := range all {
		alone := sound()
		a.do(&alone)
		wantProgram(t, a.what, alone, a.must)
		for _, b := range all[i+1:] {
			for _, do := range [][]fault{{a, b}, {b, a}} {
				p := sound()
				do[0].do(&p)
				do[1].do(&p)
				is(t, "P13.1: "+a.what+", and "+b.what, told(code.Right(p)), a.must)
			}
		}
	}
}

// Each field of an instruction is wrong, and what it takes is not there: it is told once, as itself.
func TestTwoWrongThingsAtOneInstruction(t *testing.T) {
	wantCode(t, "all fields", "130 0 1", null, code.Inst{Op: code.OpInt, A: 5, B: -1, Text: "x", At: -1}, null, ret)
	wantCode(t, "a field, and no operation", "130 0 1", null, code.Inst{Op: 99, A: 5, B: -1, Text: "x", At: -1}, null, ret)
	wantCode(t, "a way back, and nothing to take", "130 0 1", step, branch(1), null, ret)
	wantCode(t, "the last one, and a field", "130 0 1", null, code.Inst{Op: code.OpPop, A: 1})
	wantCode(t, "a later field ahead of an earlier stack", "130 0 3", pop, pop, null, code.Inst{Op: code.OpReturn, B: 1})
	wantCode(t, "two unlike stacks", "130 0 5", yes, branch(5), yes, branch(6), null, null, null, ret)
}

// Functions are asked one behind the other: an empty one is told where it stands.
func TestEmptyFunctions(t *testing.T) {
	bad := []code.Inst{null, {Op: code.OpReturn, At: -1}}
	wantProgram(t, "the first one", program(beginning(), declared("f", bad...)), "130 0")
	wantProgram(t, "the second one", program(beginning(bad...), declared("f")), "130 0 1")
	wantProgram(t, "the second one, behind one whose stack does not fit", program(beginning(ret), declared("f")), "130 1")
	wantProgram(t, "the last of three", program(beginning(ends()...), declared("f", ends()...), literal(1, nil)), "130 2")
	wantProgram(t, "two", program(beginning(ends()...), declared("f"), declared("g")), "130 1")
}

// What is asked of a function hangs on others: these are asked first only if they stand ahead.
func TestFunctionsInTheirOrder(t *testing.T) {
	p := program(beginning(ends()...), declared("f", ends()...), literal(1, []int{0}, ends()...))
	p.Funcs[1].Slots = -5
	wantProgram(t, "slots below 0, and one of them taken", p, "130 1")
	p.Funcs[1].Slots = 0
	wantProgram(t, "no slots, and one of them taken", p, "130 2")
	p.Funcs[1].Slots = 1
	wantProgram(t, "a slot, and it is taken", p, "ok")
	p.Funcs[2].Taken = []int{math.MinInt}
	wantProgram(t, "none taken, and one of them taken", p, "130 2")
}
