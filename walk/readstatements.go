package walk

import (
	"strings"

	"guise/api"
	"guise/assert"
)

// block reads statements, one behind the other.
func (r *reader) block(p *part) statement {
	var out block
	for _, kid := range p.kids {
		out.all = append(out.all, r.statement(kid))
	}
	return out
}

// statement reads one; all but blocks count.
func (r *reader) statement(p *part) statement {
	switch p.Kind {
	case api.NNone:
		return block{}
	case api.NBlock:
		return r.block(p)
	}
	return begun{p.At, r.act(p)}
}

// act reads what a statement does.
func (r *reader) act(p *part) statement {
	switch p.Kind {
	case api.NDefine:
		return define{p.use.Slot, r.expr(p.kids[0])}
	case api.NDefineTwo:
		return defineTwo{p.kids[0].use.Slot, p.kids[1].use.Slot, r.pairing(p.kids[2])}
	case api.NAssign:
		return r.assign(p)
	case api.NAssignTwo:
		return assignTwo{r.variable(p.kids[0]), r.variable(p.kids[1]), r.pairing(p.kids[2])}
	case api.NStep:
		return stepped{p.Text, r.place(p.kids[0])}
	case api.NReturn:
		return giveBack{r.orNil(p.kids[0])}
	case api.NDo:
		return perform{r.call(p.kids[0])}
	case api.NDefer:
		return r.putOff(p)
	case api.NIf:
		return choice{r.expr(p.kids[0]), r.block(p.kids[1]), r.statement(p.kids[2])}
	case api.NBreak:
		return jump{way{goBreak, r.target(p.Text, false)}}
	case api.NContinue:
		return jump{way{goTurn, r.target(p.Text, true)}}
	case api.NFall:
		return jump{way{kind: goFall}}
	}
	return r.surrounding(p)
}

func (r *reader) pairing(p *part) pairing {
	if p.Kind == api.NIndex {
		return r.indexed(p)
	}
	return r.assertion(p)
}

func (r *reader) assign(p *part) statement {
	to, made := r.place(p.kids[0]), r.expr(p.kids[1])
	if op := strings.TrimSuffix(p.Text, "="); op != "" {
		return assignWith{op, to, made}
	}
	return assign{to, made}
}

// orNil reads an expression that may be left out.
func (r *reader) orNil(p *part) expr {
	if p.Kind == api.NNone {
		return constant{}
	}
	return r.expr(p)
}

func (r *reader) putOff(p *part) statement {
	call := p.kids[0]
	if isBuilt(call.kids[0]) {
		return putOffBuilt{r.builtCall(call), p.At}
	}
	return putOff{r.funcCall(call), p.At}
}

// surrounding reads a loop or a switch.
func (r *reader) surrounding(p *part) statement {
	number, leave := r.enter(p.Text, p.Kind == api.NFor || p.Kind == api.NRange)
	defer leave()
	switch p.Kind {
	case api.NFor:
		return r.repeat(p, number)
	case api.NRange:
		return each{number, slotOf(p.kids[0]), slotOf(p.kids[1]), r.expr(p.kids[2]), r.block(p.kids[3])}
	case api.NSwitch:
		return r.choose(p, number)
	}
	return r.chooseType(p, number)
}

// slotOf is the slot of a name that may be left out.
func slotOf(p *part) int {
	if p.Kind == api.NNone {
		return -1
	}
	return p.use.Slot
}

func (r *reader) repeat(p *part, number int) statement {
	var condition expr = constant{boolOf(true)}
	if p.kids[0].Kind != api.NNone {
		condition = r.expr(p.kids[0])
	}
	return repeat{number, condition, r.block(p.kids[1])}
}

func (r *reader) choose(p *part, number int) statement {
	out := choose{number: number}
	if p.kids[0].Kind != api.NNone {
		out.of = r.expr(p.kids[0])
	}
	for _, c := range p.kids[1:] {
		var values []expr
		if c.kids[0].Kind != api.NNone {
			values = r.exprs(c.kids[0].kids)
		}
		out.rows = append(out.rows, row{values, r.block(c.kids[1])})
	}
	return out
}

func (r *reader) chooseType(p *part, number int) statement {
	out := chooseType{number: number, of: r.expr(p.kids[1])}
	for _, c := range p.kids[2:] {
		next := typeRow{slot: -1, body: r.block(c.kids[1])}
		if p.kids[0].Kind != api.NNone {
			next.slot = c.use.Slot
		}
		for _, t := range c.kids[0].kids {
			want, star := t.wanted()
			next.cases = append(next.cases, assert.Case{Want: want, Pointer: star, Nil: want == "nil"})
		}
		out.rows = append(out.rows, next)
	}
	return out
}
