package compile

import "guise/code"

// values lays down what works out some expressions, from left to right.
func (f *function) values(all []*part) {
	for _, p := range all {
		f.value(p)
	}
}

// value lays down what works out an expression.
func (f *function) value(p *part) {
	switch e := f.program.expr(p).(type) {
	case variable:
		f.variable(e.part, loads)
	case element:
		f.values(e.kids)
		f.lay(e.where(), code.Inst{Op: code.OpIndex})
	case pointed:
		f.values(e.kids)
		f.lay(e.where(), code.Inst{Op: code.OpUnary, Text: "*"})
	case selected:
		f.selection(e, false)
	case methodOf:
		f.lay(e.where(), e.made)
	case asserted:
		f.value(e.kids[0])
		f.lay(e.where(), e.kids[1].typed(code.OpAssert))
	case logic:
		f.logic(e)
	case literal:
		f.program.function(e.part, f, literalName, len(e.kids[0].kids))
		f.lay(e.where(), code.Inst{Op: code.OpLiteral, A: e.number})
	case called:
		f.called(e)
		f.lay(e.where(), code.Inst{Op: code.OpCall, A: len(e.kids) - 1})
	case built:
		f.values(e.kids[1:])
		f.lay(e.where(), e.made(code.OpBuilt))
	case composed:
		f.values(e.parts)
		f.lay(e.where(), e.made)
	}
}

// selection is e.f; at once: what that binds is called there and then, or laid down.
func (f *function) selection(e selected, atOnce bool) {
	f.values(e.kids)
	in := code.Inst{Op: code.OpSelect, Text: e.Text}
	if atOnce {
		in.A = 1
	}
	f.lay(e.where(), in)
}

// called works out what is called, and what it is called with.
func (f *function) called(e called) {
	if s, is := f.program.expr(e.kids[0]).(selected); is {
		f.selection(s, true)
	} else {
		f.value(e.kids[0])
	}
	f.values(e.kids[1:])
}

func (e built) made(op code.Op) code.Inst {
	return code.Inst{Op: op, A: len(e.kids) - 1, Text: e.kids[0].Text}
}

func (f *function) logic(e logic) {
	op := code.OpAnd
	if e.Text == "||" {
		op = code.OpOr
	}
	var end mark
	f.value(e.kids[0])
	f.lead(e.where(), op, &end)
	f.value(e.kids[1])
	f.lay(e.where(), code.Inst{Op: code.OpTruth, Text: e.Text})
	f.here(&end)
}

// place lays down what finds a place; of what has no place's form what works it out.
func (f *function) place(p *part) {
	switch e := f.program.expr(p).(type) {
	case variable:
		f.variable(e.part, places)
	case element:
		f.values(e.kids)
		f.lay(e.where(), code.Inst{Op: code.OpPlaceIndex})
	case pointed:
		f.values(e.kids)
		f.lay(e.where(), code.Inst{Op: code.OpPlaceOf})
	case selected:
		f.place(e.kids[0])
		f.lay(e.where(), code.Inst{Op: code.OpPlaceField, Text: e.Text})
	case methodOf:
		f.noPlace(e)
	default:
		f.value(p)
	}
}

// noPlace lays down the fault `place`, which no instruction is for: a field of a struct that stands nowhere has it, too.
func (f *function) noPlace(e methodOf) {
	f.lay(e.where(), code.Inst{Op: code.OpStruct, Text: "fault"})
	f.lay(e.where(), code.Inst{Op: code.OpPlaceField, Text: "word"})
}

// two lays down what works out an expression with two values.
func (f *function) two(p *part) {
	switch e := f.program.expr(p).(type) {
	case element:
		f.values(e.kids)
		f.lay(e.where(), code.Inst{Op: code.OpIndexTwo})
	case asserted:
		f.value(e.kids[0])
		f.lay(e.where(), e.kids[1].typed(code.OpHolds))
	}
}
