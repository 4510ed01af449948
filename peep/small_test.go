package peep_test

import (
	"fmt"
	"slices"
	"sync/atomic"
	"testing"

	"guise/code"
)

// lister tells all right codes of so many instructions of a few operations, but that those to which nobody comes are few: they stand one for all.
type lister struct {
	plain  []code.Inst
	goings []code.Op
	l      []code.Inst
	height []int // of the stack at each instruction; unknown, if nobody has come to it yet
	tell   func(l []code.Inst)
}

const unknown = -1

// takes and lays are how many values the operations of a lister take, and lay there.
func takesAndLays(o code.Op) (takes, lays int) {
	switch o {
	case code.OpInt, code.OpBool, code.OpLoad:
		return 0, 1
	case code.OpUnary:
		return 1, 1
	case code.OpBinary:
		return 2, 1
	case code.OpPop, code.OpBranch, code.OpAnd, code.OpReturn:
		return 1, 0
	}
	return 0, 0
}

// from lists on from an instruction, to which one comes with that many values, or not.
func (s *lister) from(i, height int) {
	switch {
	case i == len(s.l) && height == unknown:
		if code.Right(one(s.l...)) == nil {
			s.tell(s.l)
		}
	case i == len(s.l) || height != unknown && s.height[i] != unknown && height != s.height[i]:
	case height != unknown || s.height[i] != unknown:
		was := s.height[i]
		s.height[i] = max(height, was)
		s.each(i)
		s.height[i] = was
	default:
		s.notComeTo(i)
	}
}

// notComeTo: one may come back here later, if it is a step.
func (s *lister) notComeTo(i int) {
	if i < len(s.l)-1 {
		s.l[i] = pop
		s.from(i+1, unknown)
		for height := range 2 {
			s.l[i] = step
			s.height[i] = height
			s.from(i+1, height)
			s.height[i] = unknown
		}
	} else {
		s.l[i] = ret
		s.from(i+1, unknown)
	}
}

func (s *lister) each(i int) {
	height := s.height[i]
	for _, in := range s.plain {
		takes, lays := takesAndLays(in.Op)
		if takes <= height && height-takes+lays < 4 {
			s.l[i] = in
			s.from(i+1, height-takes+lays)
		}
	}
	if height > 0 {
		s.l[i] = ret
		s.from(i+1, unknown)
	}
	for _, o := range s.goings {
		takes, lays := takesAndLays(o)
		if takes > height {
			continue
		}
		on, there := height-takes+lays, height-takes+lays
		if o == code.OpAnd {
			there = height
		}
		if o == code.OpJump {
			on = unknown
		}
		for a := range s.l {
			s.going(i, to(o, a), on, there)
		}
	}
}

func (s *lister) going(i int, in code.Inst, on, there int) {
	was := s.height[in.A]
	back := in.A <= i
	if back && (in.A == i || s.l[in.A].Op != code.OpStep) || was != unknown && was != there || was == unknown && back {
		return
	}
	s.height[in.A] = there
	s.l[i] = in
	s.from(i+1, on)
	s.height[in.A] = was
}

// All codes of few instructions: each is made shorter as is promised, and does the same.
func TestAllSmallCodes(t *testing.T) {
	t.Parallel()
	var total, shortened atomic.Int64
	t.Run("parts", func(t *testing.T) {
		for _, c := range []struct {
			most   int
			every  int // which of them are played
			plain  []code.Inst
			goings []code.Op
		}{
			{5, 1, []code.Inst{num(1), yes, no, load, unary("!"), unary("-"), binary("=="), binary("+"), pop, step}, []code.Op{code.OpJump, code.OpBranch, code.OpAnd}},
			{6, 4, []code.Inst{num(1), no, load, unary("!"), binary("!="), step}, []code.Op{code.OpJump, code.OpBranch}},
			{7, 16, []code.Inst{no, load, unary("!"), step}, []code.Op{code.OpJump, code.OpBranch}},
			{8, 64, []code.Inst{yes, step}, []code.Op{code.OpJump, code.OpBranch}},
		} {
			t.Run(fmt.Sprint("up to ", c.most), func(t *testing.T) {
				t.Parallel()
				count := 0
				for n := 2; n <= c.most; n++ {
					height := slices.Repeat([]int{unknown}, n)
					s := &lister{c.plain, c.goings, make([]code.Inst, n), height, func(l []code.Inst) {
						count++
						total.Add(1)
						if len(shorter(t, one(l...)).Funcs[0].Code) < n {
							shortened.Add(1)
						}
						if count%c.every == 0 {
							playSmall(t, l, count/c.every)
						}
					}}
					s.from(0, 0)
				}
				t.Logf("%d codes", count)
			})
		}
	})
	t.Logf("%d codes, of which %d became shorter", total.Load(), shortened.Load())
	if total.Load() < 100000 || shortened.Load() < 50000 {
		t.Errorf("%d codes, of which %d became shorter", total.Load(), shortened.Load())
	}
}

// playSmall plays code with few fuels.
func playSmall(t *testing.T, l []code.Inst, number int) {
	t.Helper()
	p := asked(l...)
	q := shorter(t, p)
	alike(t, p, q, noTypes(), 3, 12)
	alike(t, p, q, noTypes(), 2, number%9)
	alike(t, p, q, noTypes(), 2, 1, 2, 3, 4, 5)
}
