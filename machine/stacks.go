package machine

import "guise/code"

// pile is like things that lie on one another, as the rows of operations write them, and what lies below them.
type pile struct {
	below *pile // nil: nothing
	thing byte
	count int
}

// bottom is the pile without things.
func bottom() *pile { return &pile{} }

func (s *pile) lay(things string) *pile {
	for i := range len(things) {
		if s.thing == things[i] {
			s = &pile{s.below, s.thing, s.count + 1}
		} else {
			s = &pile{s, things[i], 1}
		}
	}
	return s
}

// take takes so many like things off, which lie there.
func (s *pile) take(n int) *pile {
	switch {
	case n == 0:
		return s
	case n == s.count:
		return s.below
	}
	return &pile{s.below, s.thing, s.count - n}
}

// pilesOf is what each instruction of right code finds on the stack; nil: it is not come to.
func pilesOf(r *routine) []*pile {
	rows := rows()
	out := make([]*pile, len(r.code))
	out[0] = bottom()
	open := []int{0}
	hand := func(to int, s *pile) {
		if out[to] == nil {
			out[to] = s
			open = append(open, to)
		}
	}
	for len(open) > 0 {
		i := open[len(open)-1]
		open = open[:len(open)-1]
		in := r.code[i].Inst
		row := rows[in.Op]
		left := row.left(out[i], in)
		if in.Op != code.OpJump && in.Op != code.OpReturn {
			hand(i+1, left.lay(row.on))
		}
		switch in.Op {
		case code.OpJump, code.OpBranch, code.OpAnd, code.OpOr, code.OpNext:
			hand(in.A, left.lay(row.there))
		}
	}
	return out
}

// left is what an operation leaves of what it finds.
func (r row) left(s *pile, in code.Inst) *pile {
	if r.count != nil {
		s = s.take(r.count(in))
	}
	for range r.takes {
		s = s.take(1)
	}
	return s
}

// holds: just these things lie there.
func (s *pile) holds(things []thing) bool {
	for s.count > 0 {
		if len(things) < s.count {
			return false
		}
		from := len(things) - s.count
		for _, x := range things[from:] {
			if kindOf(x) != s.thing {
				return false
			}
		}
		things, s = things[:from], s.below
	}
	return len(things) == 0
}

func kindOf(x thing) byte {
	switch x.(type) {
	case place:
		return 'p'
	case turn:
		return 't'
	}
	return 'v'
}
