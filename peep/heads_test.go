package peep_test

import (
	"testing"

	"guise/api"
	"guise/code"
	"guise/peep"
)

// long is code that becomes short, and what it becomes.
func long() (l, must []code.Inst) {
	return []code.Inst{jump(2), null, num(1), yes, branch(6), unary("-"), ret}, []code.Inst{num(-1), ret}
}

// headed is a program with something in all heads, and the same with each code as it must become.
func headed() (p, must code.Program) {
	l, short := long()
	p = code.Program{Globals: []string{"x", "other", "_1"}}
	heads := []code.Func{
		{Around: -1, Slots: 3},
		{Around: -1, Name: "main", Slots: api.MaxNodes},
		{Around: -1, Name: "T.m", Params: api.MaxParams + 1, Slots: 20},
		{Around: 2, Name: "func", Params: 2, Slots: 2, Taken: []int{0, 19, 3, 3}},
		{Around: 3, Name: "func", Taken: []int{-1, -4, 1, 0, -4}},
		{Around: 0, Name: "func", Params: 1, Slots: 1, Taken: []int{2}},
		{Around: -1, Name: "f"},
	}
	must.Globals = p.Globals
	for _, f := range heads {
		f.Code = l
		p.Funcs = append(p.Funcs, f)
		f.Code = short
		must.Funcs = append(must.Funcs, f)
	}
	return p, must
}

// S1.1: variables, functions and their heads stay; each function is made shorter by itself.
func TestHeads(t *testing.T) {
	t.Parallel()
	p, must := headed()
	if q := shorter(t, p); !code.Same(q, must) {
		t.Errorf("S1.1: %s\nmust be\n%s", written(q), written(must))
	}
	wantSaved(t, p, 7*5)
	for k := range p.Funcs {
		part, want := apart(p), apart(must)
		for other := range p.Funcs {
			if other != k {
				part.Funcs[other].Code, want.Funcs[other].Code = ends(), ends()
			}
		}
		if q := shorter(t, part); !code.Same(q, want) {
			t.Errorf("S1.1: function %d: %s\nmust be\n%s", k, written(q), written(want))
		}
		wantSaved(t, part, 5)
	}
}

// What literals take, and which function an instruction means, is as it was.
func TestLiterals(t *testing.T) {
	t.Parallel()
	l := []code.Inst{num(7), to(code.OpFresh, 0), yes, branch(7), to(code.OpLiteral, 1), to(code.OpCall, 0), ret, to(code.OpLiteral, 2), ret}
	p := code.Program{Funcs: []code.Func{
		{Around: -1, Slots: 2, Code: l},
		{Around: 0, Name: "func", Taken: []int{0}, Code: []code.Inst{to(code.OpTaken, 0), num(1), unary("-"), binary("+"), printed(1), ret}},
		{Around: 0, Name: "func", Taken: []int{1, 0}, Code: []code.Inst{to(code.OpTaken, 1), ret}},
	}}
	q := shorter(t, p)
	if s := alike(t, p, q, noTypes(), 5, 20); len(s.last().Out) != 1 || s.last().Out[0] != "6" {
		t.Errorf("S1.2: %s", s)
	}
	if in := q.Funcs[0].Code[2]; in.Op != code.OpLiteral || in.A != 1 {
		t.Errorf("S1.1: %s", written(q))
	}
}

// S3, S4: none, where no function becomes shorter, also where one becomes another one of the same length.
func TestSaved(t *testing.T) {
	t.Parallel()
	l := []code.Inst{load, branch(3), step, jump(9), step, load, branch(9), num(2), ret, step, load, branch(4), num(1), ret}
	p := one(l...)
	q := shorter(t, p)
	if code.Same(p, q) || count(p) != count(q) {
		t.Fatalf("S1.6: %s", written(q))
	}
	wantSaved(t, p, 0)
	wantSaved(t, one(num(1), unary("-"), ret), 1)
	wantSaved(t, one(inRow(ends(), times(500, null), ends())...), 502)
	two := code.Program{Funcs: []code.Func{{Around: -1, Code: ends()}, {Around: -1, Name: "f", Code: []code.Inst{jump(1), jump(2), null, ret}}}}
	wantSaved(t, two, 2)
}

// No right code has one instruction; the shortest that some codes become has two.
func TestShortest(t *testing.T) {
	t.Parallel()
	for o := code.OpStep; o <= code.OpDrop; o++ {
		if code.Right(one(op(o))) == nil {
			t.Errorf("%s by itself is right", opNames[o])
		}
	}
	for _, l := range [][]code.Inst{
		{num(1), num(2), binary("<"), branch(4), yes, branch(6), no, branch(8), yes, ret},
		inRow(times(50, yes, unary("!"), branch(3))[:3], ends()),
		{jump(3), null, ret, jump(5), jump(1 + 5), jump(4 + 2), null, ret},
	} {
		q := shorter(t, one(l...))
		if len(q.Funcs[0].Code) != 2 {
			t.Errorf("S1: %s", written(q))
		}
	}
}

// Answers hang on nothing but what is handed in.
func TestTheSameAgain(t *testing.T) {
	t.Parallel()
	r := dice(7)
	for range 50 {
		p := grown(r)
		first, _ := peep.Program(p)
		second, _ := peep.Program(apart(p))
		if !code.Same(first, second) {
			t.Fatal("P4: not the same again")
		}
	}
}
