package peep

import (
	"slices"

	"guise/code"
)

// chain is the instructions of a function that are left, each told by the number that it had at first, and linked with its
// neighbours: so what one change makes possible is found beside it, however long the code is.
type chain struct {
	list   []code.Inst // each A is as it was at first: what it names now is the heir of that
	ahead  []int       // the neighbours; at both ends stands end
	behind []int
	gone   []bool
	named  []int // how many of those that are left name each
	heirs  []int // who is named in its stead: itself, but of jumps, and of those that went
	open   []int // to be looked at
	comes  []bool
	end    int
}

func newChain(list []code.Inst) *chain {
	end := len(list)
	c := &chain{
		list: slices.Clone(list), ahead: make([]int, end+1), behind: make([]int, end+1), gone: make([]bool, end),
		named: make([]int, end), heirs: make([]int, end), comes: make([]bool, end), end: end,
	}
	for i := range end + 1 {
		c.ahead[i], c.behind[i] = i-1, i+1
	}
	c.ahead[0], c.behind[end] = end, 0
	for i, in := range list {
		c.heirs[i] = i
		c.open = append(c.open, end-1-i)
		if goesTo(in.Op) {
			c.named[in.A]++
		}
	}
	return c
}

// goesTo: whether A is an instruction that may come next.
func goesTo(op code.Op) bool {
	switch op {
	case code.OpJump, code.OpBranch, code.OpAnd, code.OpOr, code.OpNext:
		return true
	}
	return false
}

// goesOn: whether the instruction behind may come next.
func goesOn(op code.Op) bool { return op != code.OpJump && op != code.OpReturn }

// walk goes to all instructions that are come to.
func (c *chain) walk() {
	clear(c.comes)
	var open []int
	i := c.behind[c.end]
walk:
	for {
		for c.comes[i] {
			if len(open) == 0 {
				break walk
			}
			i, open = open[len(open)-1], open[:len(open)-1]
		}
		c.comes[i] = true
		in := c.list[i]
		if goesTo(in.Op) {
			open = append(open, c.heir(in.A))
		}
		if goesOn(in.Op) {
			i = c.behind[i]
		}
	}
}

// dropNotComeTo drops also loops that nothing leads into, of which each instruction has one ahead of it, or is named.
func (c *chain) dropNotComeTo() {
	c.walk()
	for i := c.behind[c.end]; i != c.end; i = c.behind[i] {
		if !c.comes[i] {
			c.drop(i)
		}
	}
}

// drop takes an instruction out, which names nothing any more.
func (c *chain) drop(i int) {
	if in := c.list[i]; goesTo(in.Op) {
		goal := c.heir(in.A)
		c.named[goal]--
		c.touch(goal)
	}
	c.unlink(i)
}

// unlink takes one out; its own link behind stays, for whoever stands there.
func (c *chain) unlink(i int) {
	c.gone[i] = true
	c.behind[c.ahead[i]], c.ahead[c.behind[i]] = c.behind[i], c.ahead[i]
	c.touch(c.behind[i])
}

// touch: what stands ahead of an instruction, or who names it, is not as it was; the one behind it may hang on that, too.
func (c *chain) touch(i int) {
	for range 2 {
		if i == c.end {
			return
		}
		c.open = append(c.open, i)
		i = c.behind[i]
	}
}

// heir is who is named in the stead of an instruction.
func (c *chain) heir(i int) int {
	for c.heirs[i] != i {
		c.heirs[i] = c.heirs[c.heirs[i]]
		i = c.heirs[i]
	}
	return i
}

// inherit lets all that name an instruction name another one, ahead of which one of them may stand.
func (c *chain) inherit(from, to int) {
	c.heirs[from] = to
	c.named[to] += c.named[from]
	c.named[from] = 0
	c.touch(to)
}

// numbered is what is left, with the numbers that it has from now on.
func (c *chain) numbered() []code.Inst {
	var out []code.Inst
	numbers := make([]int, c.end)
	for i := c.behind[c.end]; i != c.end; i = c.behind[i] {
		numbers[i] = len(out)
		out = append(out, c.list[i])
	}
	for i, in := range out {
		if goesTo(in.Op) {
			out[i].A = numbers[c.heir(in.A)]
		}
	}
	return out
}
