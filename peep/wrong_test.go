package peep_test

import (
	"strings"
	"testing"

	"guise/api"
	"guise/code"
)

// rightOne is a program of a beginning, a declared function, a method and a literal, each of which may become shorter.
func rightOne() code.Program {
	l, _ := long()
	return code.Program{Globals: []string{"x", "y"}, Funcs: []code.Func{
		{Around: -1, Slots: 1, Code: l},
		{Around: -1, Name: "f", Params: 1, Slots: 1, Code: l},
		{Around: -1, Name: "T.m", Params: 1, Slots: 2, Code: l},
		{Around: 2, Name: "func", Slots: 1, Taken: []int{0}, Code: l},
	}}
}

// Each thing that may be wrong, in chapter 13's order: what code.Right tells, and nothing beside it.
func TestWrong(t *testing.T) {
	t.Parallel()
	if code.Right(rightOne()) != nil {
		t.Fatal("the program that is altered is not right")
	}
	long := strings.Repeat("n", api.MaxName+1)
	for _, c := range []struct {
		must string
		do   func(p *code.Program)
	}{
		{"22 0", func(p *code.Program) { *p = code.Program{} }},
		{"22 0", func(p *code.Program) { p.Funcs = make([]code.Func, api.MaxNodes+1) }},
		{"22 0", func(p *code.Program) { p.Globals = make([]string, api.MaxNodes+1) }},
		{"22 0", func(p *code.Program) { p.Funcs[1].Code = inRow(times(api.MaxCode, null), ends()) }},
		{"22 2", func(p *code.Program) { p.Funcs[2].Slots = api.MaxNodes + 1 }},
		{"22 3", func(p *code.Program) { p.Funcs[3].Taken = make([]int, api.MaxNodes+1) }},
		{"130 0", func(p *code.Program) { p.Globals[1] = "x" }},
		{"130 0", func(p *code.Program) { p.Globals[1] = "" }},
		{"130 0", func(p *code.Program) { p.Globals[0] = long }},
		{"130 0", func(p *code.Program) { p.Funcs[0].Name = "main" }},
		{"130 0", func(p *code.Program) { p.Funcs[0].Around = 1 }},
		{"130 1", func(p *code.Program) { p.Funcs[1].Name = "if" }},
		{"130 2", func(p *code.Program) { p.Funcs[2].Name = "f" }},
		{"130 1", func(p *code.Program) { p.Funcs[1].Params = 2 }},
		{"130 2", func(p *code.Program) { p.Funcs[2].Params, p.Funcs[2].Slots = 14, 14 }},
		{"130 3", func(p *code.Program) { p.Funcs[3].Around = 3 }},
		{"130 3", func(p *code.Program) { p.Funcs[3].Taken = []int{2} }},
		{"130 2", func(p *code.Program) { p.Funcs[2].Code = nil }},
		{"130 1 1", func(p *code.Program) { p.Funcs[1].Code = []code.Inst{null, op(0), ret} }},
		{"130 1 0", func(p *code.Program) { p.Funcs[1].Code = []code.Inst{op(code.OpDrop + 1), ret} }},
		{"130 3 0", func(p *code.Program) { p.Funcs[3].Code = []code.Inst{{Op: code.OpInt, Text: "007"}, ret} }},
		{"130 0 0", func(p *code.Program) { p.Funcs[0].Code = []code.Inst{{Op: code.OpInt, Text: "-0"}, ret} }},
		{"130 0 0", func(p *code.Program) {
			p.Funcs[0].Code = []code.Inst{{Op: code.OpInt, Text: "9223372036854775808"}, ret}
		}},
		{"130 0 0", func(p *code.Program) { p.Funcs[0].Code = []code.Inst{to(code.OpBool, 2), ret} }},
		{"130 0 0", func(p *code.Program) { p.Funcs[0].Code = []code.Inst{{Op: code.OpBool, B: 1}, ret} }},
		{"130 0 0", func(p *code.Program) { p.Funcs[0].Code = []code.Inst{{Op: code.OpNil, At: -1}, ret} }},
		{"130 0 0", func(p *code.Program) { p.Funcs[0].Code = []code.Inst{{Op: code.OpNil, At: 60001}, ret} }},
		{"130 0 1", func(p *code.Program) { p.Funcs[0].Code = []code.Inst{num(1), unary("&"), ret} }},
		{"130 0 2", func(p *code.Program) { p.Funcs[0].Code = []code.Inst{num(1), num(2), binary("&&"), ret} }},
		{"130 0 0", func(p *code.Program) { p.Funcs[0].Code = []code.Inst{to(code.OpLoad, 1), ret} }},
		{"130 0 0", func(p *code.Program) { p.Funcs[0].Code = []code.Inst{to(code.OpLiteral, 3), ret} }},
		{"130 0 0", func(p *code.Program) { p.Funcs[0].Code = []code.Inst{jump(3), null, ret} }},
		{"130 0 2", func(p *code.Program) { p.Funcs[0].Code = []code.Inst{null, pop, jump(0)} }},
		{"130 0 0", func(p *code.Program) { p.Funcs[0].Code = []code.Inst{jump(0)} }},
		{"130 0 1", func(p *code.Program) { p.Funcs[0].Code = []code.Inst{null, pop} }},
		{"130 0 3", func(p *code.Program) { p.Funcs[0].Code = []code.Inst{null, ret, null, pop} }},
		{"130 0 3", func(p *code.Program) { p.Funcs[0].Code = []code.Inst{null, ret, null, unary("&"), ret} }}, // nobody comes to it
		{"130 0 0", func(p *code.Program) { p.Funcs[0].Code = []code.Inst{ret} }},
		{"130 0 1", func(p *code.Program) { p.Funcs[0].Code = []code.Inst{num(1), binary("+"), ret} }},
		{"130 2 3", func(p *code.Program) { p.Funcs[2].Code = []code.Inst{yes, branch(3), null, null, ret} }},
		{"130 3 2", func(p *code.Program) { p.Funcs[3].Code = []code.Inst{null, null, op(code.OpPut), null, ret} }},
		{"130 1 30000", func(p *code.Program) { p.Funcs[1].Code = inRow(times(30001, num(1)), []code.Inst{ret}) }},
	} {
		p := rightOne()
		c.do(&p)
		if got := told(code.Right(p)); got != c.must {
			t.Errorf("what is altered is told as %s; must be %s", got, c.must)
		}
		wantWrong(t, p, c.must)
	}
}

// What would go is asked, too; and what is right stays so, however wrong it would be, were it come to.
func TestNotComeTo(t *testing.T) {
	t.Parallel()
	becomes(t, "nobody comes there", []code.Inst{num(1), ret, binary("+"), op(code.OpPut), to(code.OpDrop, 9), unary("!"), ret}, []code.Inst{num(1), ret})
	wantWrong(t, one(num(1), ret, to(code.OpDrop, -1), ret), "130 0 2")
}
