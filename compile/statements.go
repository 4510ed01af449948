package compile

import (
	"strings"

	"guise/api"
	"guise/code"
)

// begin lays down what counts a statement.
func (f *function) begin(p *part) { f.lay(p.At, code.Inst{Op: code.OpStep}) }

// block lays down statements, one behind the other.
func (f *function) block(p *part) {
	for _, kid := range p.kids {
		f.statement(kid)
	}
}

// statement lays down one; all but blocks count.
func (f *function) statement(p *part) {
	if p.Kind == api.NBlock {
		f.block(p)
		return
	}
	f.begin(p)
	switch p.Kind {
	case api.NDefine:
		f.value(p.kids[0])
		f.fresh(p)
	case api.NDefineTwo:
		f.two(p.kids[2])
		f.fresh(p.kids[1])
		f.fresh(p.kids[0])
	case api.NAssign:
		f.assign(p)
	case api.NAssignTwo:
		f.assignTwo(p)
	case api.NStep:
		f.place(p.kids[0])
		f.lay(p.At, code.Inst{Op: code.OpFetch})
		f.lay(p.At, code.Inst{Op: code.OpUnary, Text: p.Text})
		f.lay(p.At, code.Inst{Op: code.OpPut})
	case api.NReturn:
		f.giveBack(p)
	case api.NDo:
		f.value(p.kids[0])
		f.pop(p.At)
	case api.NDefer:
		f.putOff(p)
	default:
		f.control(p)
	}
}

// control lays down a statement that says where to go on.
func (f *function) control(p *part) {
	switch p.Kind {
	case api.NIf:
		f.choice(p)
	case api.NFor:
		f.repeat(p)
	case api.NRange:
		f.each(p)
	case api.NSwitch:
		f.choose(p)
	case api.NTypeSwitch:
		f.chooseType(p)
	case api.NBreak:
		f.breakOff(p)
	case api.NContinue:
		f.goOn(p)
	case api.NFall:
		f.lead(p.At, code.OpJump, f.targets[len(f.targets)-1].next)
	}
}

func (f *function) assign(p *part) {
	to, made := p.kids[0], p.kids[1]
	if v, is := f.program.expr(to).(variable); is && p.Text == "=" {
		f.value(made)
		f.variable(v.part, stores)
		return
	}
	f.place(to)
	if op := strings.TrimSuffix(p.Text, "="); op != "" {
		f.lay(p.At, code.Inst{Op: code.OpFetch})
		f.value(made)
		f.lay(p.At, code.Inst{Op: code.OpBinary, Text: op})
	} else {
		f.value(made)
	}
	f.lay(p.At, code.Inst{Op: code.OpPut})
}

// assignTwo stores the second value first, since it lies on top: that shows only where both go to one variable, which has the second one then.
func (f *function) assignTwo(p *part) {
	first, second := p.kids[0], p.kids[1]
	f.two(p.kids[2])
	f.variable(second, stores)
	if first.Text == second.Text {
		f.pop(first.At)
	} else {
		f.variable(first, stores)
	}
}

func (f *function) giveBack(p *part) {
	if p.kids[0].isLeftOut() {
		f.lay(p.At, code.Inst{Op: code.OpNil})
	} else {
		f.value(p.kids[0])
	}
	f.lay(p.At, code.Inst{Op: code.OpReturn})
}

// putOff lays down a call that is laid down itself, when it is come to.
func (f *function) putOff(p *part) {
	switch e := f.program.expr(p.kids[0]).(type) {
	case built:
		f.values(e.kids[1:])
		f.lay(p.At, e.made(code.OpDeferBuilt))
	case called:
		f.called(e)
		f.lay(p.At, code.Inst{Op: code.OpDefer, A: len(e.kids) - 1})
	}
}

func (f *function) choice(p *part) {
	then, not := p.kids[1], p.kids[2]
	var otherwise, end mark
	f.value(p.kids[0])
	f.lead(p.At, code.OpBranch, &otherwise)
	f.block(then)
	if not.isLeftOut() {
		f.here(&otherwise)
		return
	}
	f.lead(p.At, code.OpJump, &end)
	f.here(&otherwise)
	f.statement(not)
	f.here(&end)
}
