package compile

import (
	"guise/api"
	"guise/code"
)

// repeat lays down its statements ahead of its condition: so what goes back leads to a tick, as it must.
func (f *function) repeat(p *part) {
	condition, body := p.kids[0], p.kids[1]
	t := f.enter(p)
	if !condition.isLeftOut() {
		f.lead(p.At, code.OpJump, &t.again)
	}
	tick := f.tick(p.At)
	f.block(body)
	f.here(&t.again)
	if !condition.isLeftOut() {
		f.value(condition)
		f.lead(p.At, code.OpBranch, &t.end)
	}
	f.lay(p.At, code.Inst{Op: code.OpJump, A: tick})
	f.leave()
}

// each has its turn on the stack, and at the tick the key and the value above it.
func (f *function) each(p *part) {
	key, held, of, body := p.kids[0], p.kids[1], p.kids[2], p.kids[3]
	f.value(of)
	f.lay(p.At, code.Inst{Op: code.OpTurn})
	t := f.enter(p)
	f.lead(p.At, code.OpJump, &t.again)
	tick := f.tick(p.At)
	f.fresh(held)
	f.fresh(key)
	f.block(body)
	f.here(&t.again)
	f.lead(p.At, code.OpNext, &t.end)
	f.lay(p.At, code.Inst{Op: code.OpJump, A: tick})
	f.leave()
}

// target is a loop or a switch that is being laid down.
type target struct {
	label      string
	loop       bool
	turns      int   // how many of its own lie on the stack in its statements
	again, end mark  // where a continue leads, and a break
	next       *mark // where a fallthrough leads
}

func (f *function) enter(p *part) *target {
	t := &target{label: p.Text, loop: p.Kind == api.NFor || p.Kind == api.NRange}
	if p.Kind == api.NRange {
		t.turns = 1
	}
	f.targets = append(f.targets, t)
	return t
}

// leave ends the innermost one: what is laid down next stands behind it.
func (f *function) leave() {
	last := len(f.targets) - 1
	f.here(&f.targets[last].end)
	f.targets = f.targets[:last]
}

// innermost is the innermost target that bears a label, or any, if there is none; a loop alone, if that is wanted. And how many turns of others lie above its own.
func (f *function) innermost(label string, loop bool) (*target, int) {
	turns, i := 0, len(f.targets)-1
	for ; !f.targets[i].meant(label, loop); i-- {
		turns += f.targets[i].turns
	}
	return f.targets[i], turns
}

func (t *target) meant(label string, loop bool) bool {
	return (label == "" || label == t.label) && (t.loop || !loop)
}

func (f *function) breakOff(p *part) {
	t, turns := f.innermost(p.Text, false)
	f.drop(p.At, turns+t.turns)
	f.lead(p.At, code.OpJump, &t.end)
}

func (f *function) goOn(p *part) {
	t, turns := f.innermost(p.Text, true)
	f.drop(p.At, turns)
	f.lead(p.At, code.OpJump, &t.again)
}

func (f *function) drop(at, turns int) {
	if turns > 0 {
		f.lay(at, code.Inst{Op: code.OpDrop, A: turns})
	}
}
