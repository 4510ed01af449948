package peep

import "guise/code"

func (c *chain) lookAtOpen() {
	for len(c.open) > 0 {
		last := len(c.open) - 1
		i := c.open[last]
		c.open = c.open[:last]
		if !c.gone[i] {
			c.look(i)
		}
	}
}

// look does what can be done with an instruction and those ahead of it. One that nothing leads to goes at once, though
// dropNotComeTo would find it: so what hangs on that is done in one go.
func (c *chain) look(i int) {
	in, mark := c.list[i], c.named[i] > 0
	switch {
	case c.isJumpTo(c.ahead[i], i):
		c.dropJump(c.ahead[i])
	case in.Op == code.OpJump && mark:
		c.passOn(i)
	case !mark && !c.isGoneInto(i):
		c.drop(i)
	case !mark && in.Op == code.OpBranch && c.constants(i) > 0:
		c.decide(i)
	case !mark && in.Op == code.OpUnary && c.constants(i) > 0:
		c.foldOne(i)
	case !mark && in.Op == code.OpBinary && c.constants(i) > 1:
		c.foldTwo(i)
	}
}

// isGoneInto: whether an instruction is come to from the one ahead of it, or is what the function begins with.
func (c *chain) isGoneInto(i int) bool {
	return c.ahead[i] == c.end || goesOn(c.list[c.ahead[i]].Op)
}

func (c *chain) isJumpTo(i, goal int) bool {
	return i != c.end && c.list[i].Op == code.OpJump && c.heir(c.list[i].A) == goal
}

// passOn lets those that name a jump name what it names. That may be: they stand ahead of it, so it leads on from there too, or to
// a step or a tick.
func (c *chain) passOn(jump int) {
	c.inherit(jump, c.heir(c.list[jump].A))
	c.touch(jump)
}

func (c *chain) dropJump(jump int) {
	c.passOn(jump)
	c.drop(jump)
}

// decide: a branch of a bool that is known is a jump, or nothing.
func (c *chain) decide(branch int) {
	condition, in := c.ahead[branch], c.list[branch]
	switch {
	case c.list[condition].Op != code.OpBool:
	case c.list[condition].A == 1:
		c.inherit(condition, c.heir(c.behind[branch]))
		c.drop(condition)
		c.drop(branch)
	default:
		c.list[condition] = code.Inst{Op: code.OpJump, A: in.A, At: in.At}
		c.unlink(branch)
		c.touch(condition)
	}
}
