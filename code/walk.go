package code

import (
	"container/heap"

	"guise/api"
)

// unseen is the stack of an instruction that is not come to.
const unseen = -1

// wrongStack hands stacks on through each function, and tells the first instruction where they don't fit.
func wrongStack(p Program) *api.Wrong {
	s := newStacks()
	for number, f := range p.Funcs {
		if i, wrong := newWalk(s, f.Code).firstUnfit(); wrong {
			return wrongAt(number, i)
		}
	}
	return nil
}

// walk goes over the instructions of a function that are come to.
type walk struct {
	*stacks
	code  []Inst
	found []int // the stack that each finds
	open  least // come to, and not looked at
}

func newWalk(s *stacks, code []Inst) *walk {
	w := &walk{stacks: s, code: code, found: make([]int, len(code))}
	for i := range w.found {
		w.found[i] = unseen
	}
	w.hand(0, empty)
	return w
}

// hand hands a stack to an instruction; whether that has no other one.
func (w *walk) hand(i, stack int) bool {
	if w.found[i] == unseen {
		w.found[i] = stack
		heap.Push(&w.open, i)
	}
	return w.found[i] == stack
}

func (w *walk) firstUnfit() (int, bool) {
	for len(w.open) > 0 {
		i := heap.Pop(&w.open).(int)
		if at, wrong := w.look(i); wrong {
			return at, true
		}
	}
	return 0, false
}

// look hands on what one instruction leaves; it tells which one does not fit.
func (w *walk) look(i int) (int, bool) {
	in := w.code[i]
	e := effectOf(in)
	left, finds := w.takeAll(w.found[i], e)
	if !finds {
		return i, true
	}
	on, there := w.lay(left, e.on), w.lay(left, e.there)
	if w.runs[on].depth > maxThings {
		return i, true
	}
	if goesOn(in.Op) && !w.hand(i+1, on) {
		return i + 1, true
	}
	if goesTo(in.Op) && !w.hand(in.A, there) {
		return in.A, true
	}
	return 0, false
}

// least is a heap of numbers, the least one on top.
type least []int

func (l least) Len() int { return len(l) }

func (l least) Less(i, j int) bool { return l[i] < l[j] }

func (l least) Swap(i, j int) { l[i], l[j] = l[j], l[i] }

func (l *least) Push(x any) { *l = append(*l, x.(int)) }

func (l *least) Pop() any {
	last := len(*l) - 1
	x := (*l)[last]
	*l = (*l)[:last]
	return x
}
