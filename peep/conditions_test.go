package peep_test

import (
	"testing"

	"guise/code"
)

// S1.5, S1.3: a condition that is known, either way, and what nobody comes to behind it.
func TestConditions(t *testing.T) {
	t.Parallel()
	for _, c := range []struct {
		what    string
		l, must []code.Inst
	}{
		{"true", []code.Inst{yes, branch(4), num(1), ret, num(2), ret}, []code.Inst{num(1), ret}},
		{"false", []code.Inst{no, branch(4), num(1), ret, num(2), ret}, []code.Inst{num(2), ret}},
		{"true, to the one behind", []code.Inst{yes, branch(2), num(1), ret}, []code.Inst{num(1), ret}},
		{"false, to the one behind", []code.Inst{no, branch(2), num(1), ret}, []code.Inst{num(1), ret}},
		{"worked out", []code.Inst{num(1), num(2), binary("<"), branch(6), num(1), ret, num(2), ret}, []code.Inst{num(1), ret}},
		{"turned", []code.Inst{yes, unary("!"), branch(5), num(1), ret, num(2), ret}, []code.Inst{num(2), ret}},
		{"in the midst", []code.Inst{step, no, branch(6), step, num(1), pop, tick, num(2), ret}, []code.Inst{step, tick, num(2), ret}},
		{"in the midst, the other way", []code.Inst{step, yes, branch(6), step, num(1), pop, tick, num(2), ret}, []code.Inst{step, step, num(1), pop, tick, num(2), ret}},
		{"both come together", []code.Inst{yes, branch(4), num(1), jump(5), num(2), unary("-"), ret}, []code.Inst{num(-1), ret}},
		{"both come together, the other way", []code.Inst{no, branch(4), num(1), jump(5), num(2), unary("-"), ret}, []code.Inst{num(-2), ret}},
		{"one behind the other", []code.Inst{yes, branch(8), no, branch(6), num(1), ret, yes, branch(8), step, num(3), ret}, []code.Inst{step, num(3), ret}},
		{"to the end", []code.Inst{step, yes, branch(5), num(1), ret, step, step, step, num(2), ret}, []code.Inst{step, num(1), ret}},
		{"no bool", []code.Inst{num(1), branch(4), num(1), ret, num(2), ret}, []code.Inst{num(1), branch(4), num(1), ret, num(2), ret}},
		{"no bool, worked out", []code.Inst{num(1), unary("-"), branch(5), num(1), ret, num(2), ret}, []code.Inst{num(-1), branch(4), num(1), ret, num(2), ret}},
		{"not known", []code.Inst{load, branch(4), num(1), ret, num(2), ret}, []code.Inst{load, branch(4), num(1), ret, num(2), ret}},
		{"not known, to the one behind", []code.Inst{load, branch(2), num(2), ret}, []code.Inst{load, branch(2), num(2), ret}},
		{"the branch is a mark", []code.Inst{load, branch(4), yes, jump(5), no, branch(8), num(1), ret, num(2), ret}, []code.Inst{load, branch(4), yes, jump(5), no, branch(8), num(1), ret, num(2), ret}},
		{"the bool is a mark, true", []code.Inst{load, branch(3), step, yes, branch(7), num(1), ret, num(2), ret}, []code.Inst{load, branch(3), step, num(1), ret}},
		{"the bool is a mark, false", []code.Inst{load, branch(3), step, no, branch(7), num(1), ret, num(2), ret}, []code.Inst{load, branch(3), step, num(2), ret}},
		{"with something below", []code.Inst{num(1), no, branch(5), unary("-"), jump(6), unary("^"), ret}, []code.Inst{num(-2), ret}},
		{"and and or stay", []code.Inst{yes, to(code.OpAnd, 3), no, ret}, []code.Inst{yes, to(code.OpAnd, 3), no, ret}},
	} {
		becomes(t, c.what, c.l, c.must)
	}
}

// Loops whose conditions are known.
func TestLoops(t *testing.T) {
	t.Parallel()
	for _, c := range []struct {
		what    string
		l, must []code.Inst
	}{
		{"it goes on", []code.Inst{jump(2), tick, yes, branch(5), jump(1), num(1), ret}, []code.Inst{tick, jump(0)}},
		{"it is not begun", []code.Inst{jump(4), tick, step, step, no, branch(7), jump(1), num(1), ret}, []code.Inst{num(1), ret}},
		{"it goes back, if false", []code.Inst{step, no, branch(0), num(1), ret}, []code.Inst{step, jump(0)}},
		{"it goes back, if true", []code.Inst{step, yes, branch(0), num(1), ret}, []code.Inst{step, num(1), ret}},
		{"not known", []code.Inst{step, load, branch(0), num(1), ret}, []code.Inst{step, load, branch(0), num(1), ret}},
		{"nobody comes to it", []code.Inst{num(1), ret, step, jump(2)}, []code.Inst{num(1), ret}},
		{"nobody comes to it any more", []code.Inst{yes, branch(4), num(1), ret, step, jump(4)}, []code.Inst{num(1), ret}},
		{"nobody comes to two, which name one another", []code.Inst{yes, branch(4), num(1), ret, step, load, branch(8), jump(4), tick, load, branch(8), jump(4)}, []code.Inst{num(1), ret}},
		{"a loop that nobody comes to names an operation", []code.Inst{yes, branch(5), num(1), jump(9), null, step, load, branch(5), num(2), unary("-"), ret}, []code.Inst{num(-1), ret}},
		{"a loop that nobody comes to names the second constant", []code.Inst{yes, branch(5), num(1), jump(9), null, step, load, branch(5), num(2), num(3), binary("+"), ret}, []code.Inst{num(4), ret}},
		{"a loop that nobody comes to stands between constants", []code.Inst{num(1), yes, branch(5), jump(8), null, step, load, branch(5), num(2), binary("+"), ret}, []code.Inst{num(3), ret}},
		{"a loop that nobody comes to stands between a constant and its operation", []code.Inst{num(1), yes, branch(5), jump(8), null, step, load, branch(5), unary("-"), ret}, []code.Inst{num(-1), ret}},
		{"a loop that nobody comes to stands between a bool and its branch", []code.Inst{no, yes, branch(5), jump(8), null, step, load, branch(5), branch(11), num(1), ret, num(2), ret}, []code.Inst{num(2), ret}},
		{"a loop that nobody comes to names a jump", []code.Inst{yes, branch(5), step, jump(8), null, step, load, branch(5), jump(10), null, num(2), ret}, []code.Inst{step, num(2), ret}},
		{"a loop within one", []code.Inst{step, step, yes, branch(1), no, branch(0), num(1), ret}, []code.Inst{step, step, jump(0)}},
		{"an endless one, and what is behind it", []code.Inst{num(1), pop, step, jump(2), num(2), ret}, []code.Inst{num(1), pop, step, jump(2)}},
	} {
		becomes(t, c.what, c.l, c.must)
	}
}

// stages is a row of loops that nobody comes to, each of which is known to be so only when the one ahead of it has gone: for it names the operation on which the next one's branch hangs.
func stages(n int) []code.Inst {
	var l []code.Inst
	for range n {
		b := len(l)
		l = append(l, no, unary("!"), branch(b+4), jump(b+9), step, load, branch(b+4), no, jump(b+10))
	}
	return append(l, no, unary("!"), ret)
}

// outsideIn is a row likewise, but the loops stand ahead of what leads back to them.
func outsideIn(n int) []code.Inst {
	l := []code.Inst{jump(1 + 5*n)}
	first := len(l) + 5*n
	for k := range n {
		b := len(l)
		l = append(l, step, load, branch(b), no, jump(first+3*(k+1)+1))
	}
	for k := range n {
		l = append(l, no, unary("!"), branch(1+5*k))
	}
	return append(l, no, unary("!"), ret)
}

func TestLoopsOneBehindTheOther(t *testing.T) {
	t.Parallel()
	for _, n := range []int{0, 1, 2, 3, 4, 10} {
		becomes(t, "stages", stages(n), []code.Inst{yes, ret})
		becomes(t, "from behind", outsideIn(n), []code.Inst{yes, ret})
	}
}
