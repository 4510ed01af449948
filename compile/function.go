package compile

import (
	"guise/code"
	"guise/names"
)

// function is one whose code is being laid down.
type function struct {
	instructions
	program *program
	number  int
	around  *function   // of a literal: the one in which it stands
	head    code.Func   // all but its code
	took    map[int]int // the numbers of what it takes, by what its head says of these
	targets []*target   // the loops and switches around the statement at hand
}

// take is the number, among those that a literal takes, of a variable that lies so many functions further out. What lies further out than the function around it, that one takes, too.
func (f *function) take(slot, up int) int {
	if up > 1 {
		slot = -1 - f.around.take(slot, up-1)
	}
	number, has := f.took[slot]
	if !has {
		number = len(f.head.Taken)
		f.took[slot] = number
		f.head.Taken = append(f.head.Taken, slot)
	}
	return number
}

// access is the instructions that do one thing with a variable, by where it lies.
type access struct{ slot, taken, global code.Op }

var (
	loads  = access{code.OpLoad, code.OpTaken, code.OpGlobal}
	stores = access{code.OpStore, code.OpStoreTaken, code.OpStoreGlobal}
	places = access{code.OpPlaceSlot, code.OpPlaceTaken, code.OpPlaceGlobal}
)

// variable lays down one of these.
func (f *function) variable(p *part, how access) {
	in := code.Inst{Op: how.slot, A: p.use.Slot}
	switch {
	case p.use.Kind == names.Global:
		in.Op = how.global
	case p.use.Up > 0:
		in = code.Inst{Op: how.taken, A: f.take(p.use.Slot, p.use.Up)}
	}
	f.lay(p.At, in)
}

// fresh takes the topmost value off: a new variable of that name has it, if there is one.
func (f *function) fresh(p *part) {
	in := code.Inst{Op: code.OpPop}
	if p.use.Kind == names.Local {
		in = code.Inst{Op: code.OpFresh, A: p.use.Slot}
	}
	f.lay(p.At, in)
}
