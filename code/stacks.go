package code

// maxThings is how many things may lie on a stack.
const maxThings = 30000

// Things on a stack, as effects write them.
const (
	value  = 'v'
	place  = 'p'
	turn   = 't'
	either = 'e' // a value or a place, where it is taken
)

// run is like things that lie on one another, and what lies below them: another run, of things unlike these.
type run struct {
	below int
	thing byte
	count int
	depth int // how many things lie there with all below
}

// stacks has each stack under one number, that of its topmost run: two stacks are the same just if their numbers are. Thousands of
// things may lie on each of thousands of stacks: so what is below is shared, and like things are counted.
type stacks struct {
	runs    []run
	numbers map[run]int
}

// empty is the stack without things.
const empty = 0

func newStacks() *stacks {
	return &stacks{runs: []run{{}}, numbers: map[run]int{}}
}

func (s *stacks) number(below int, thing byte, count int) int {
	if count == 0 {
		return below
	}
	r := run{below: below, thing: thing, count: count, depth: s.runs[below].depth + count}
	number, known := s.numbers[r]
	if !known {
		number = len(s.runs)
		s.runs = append(s.runs, r)
		s.numbers[r] = number
	}
	return number
}

// lay is the stack with things more on it, the top one last.
func (s *stacks) lay(stack int, things string) int {
	for i := range len(things) {
		top := s.runs[stack]
		if top.thing == things[i] {
			stack = s.number(top.below, top.thing, top.count+1)
		} else {
			stack = s.number(stack, things[i], 1)
		}
	}
	return stack
}

// take is the stack without so many things of its top, if these lie there.
func (s *stacks) take(stack int, thing byte, count int) (int, bool) {
	top := s.runs[stack]
	if count == 0 {
		return stack, true
	}
	if !fits(top.thing, thing) || top.count < count {
		return empty, false
	}
	return s.number(top.below, top.thing, top.count-count), true
}

func fits(lies, wanted byte) bool {
	return lies == wanted || wanted == either && (lies == value || lies == place)
}

// takeAll is the stack without all that an effect takes.
func (s *stacks) takeAll(stack int, e effect) (int, bool) {
	stack, found := s.take(stack, e.of, e.count)
	for i := len(e.takes) - 1; i >= 0 && found; i-- {
		stack, found = s.take(stack, e.takes[i], 1)
	}
	return stack, found
}
