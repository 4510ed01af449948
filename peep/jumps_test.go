package peep_test

import (
	"fmt"
	"slices"
	"testing"

	"guise/code"
)

// S1.6, S1.7: jumps to jumps, and to the one behind.
func TestJumps(t *testing.T) {
	t.Parallel()
	for _, c := range []struct {
		what    string
		l, must []code.Inst
	}{
		{"to the one behind", []code.Inst{jump(1), num(1), ret}, []code.Inst{num(1), ret}},
		{"to the one behind, often", []code.Inst{jump(1), jump(2), jump(3), jump(4), num(1), ret}, []code.Inst{num(1), ret}},
		{"to the one behind, in the midst", []code.Inst{step, jump(2), step, jump(4), num(1), ret}, []code.Inst{step, step, num(1), ret}},
		{"to the one behind, when others have gone", []code.Inst{jump(3), num(2), ret, num(1), ret}, []code.Inst{num(1), ret}},
		{"to a jump", []code.Inst{jump(3), num(2), ret, jump(5), step, num(1), ret}, []code.Inst{num(1), ret}},
		{"back to a step", []code.Inst{step, jump(2), jump(0)}, []code.Inst{step, jump(0)}},
		{"around in a ring", []code.Inst{step, jump(3), step, jump(6), null, pop, jump(9), null, pop, jump(0)}, []code.Inst{step, jump(0)}},
		{"back and forth", []code.Inst{jump(4), step, num(1), ret, jump(7), tick, jump(1), jump(5)}, []code.Inst{jump(4), step, num(1), ret, tick, jump(1)}},
		{"a branch back, to a jump that leads back", []code.Inst{step, load, branch(5), num(1), ret, jump(0)}, []code.Inst{step, load, branch(0), num(1), ret}},
		{"of two ways, one jumps", []code.Inst{load, branch(4), num(1), jump(5), num(2), ret}, []code.Inst{load, branch(4), num(1), jump(5), num(2), ret}},
		{"gone into, and named", []code.Inst{load, branch(3), step, jump(6), num(2), ret, num(1), ret}, []code.Inst{load, branch(3), step, num(1), ret}},
		{"gone into, and named, and needed", []code.Inst{load, branch(3), step, jump(9), step, load, branch(9), num(2), ret, step, load, branch(4), num(1), ret}, []code.Inst{load, branch(9), step, jump(9), step, load, branch(9), num(2), ret, step, load, branch(4), num(1), ret}},
		{"a jump that a branch became", []code.Inst{load, branch(4), step, jump(6), no, branch(6), num(1), ret}, []code.Inst{load, branch(3), step, num(1), ret}},
		{"each over the other", []code.Inst{jump(4), jump(3), num(9), jump(6), jump(1 + 4), jump(7), null, num(1), ret}, []code.Inst{num(1), ret}},
	} {
		becomes(t, c.what, c.l, c.must)
	}
}

// namers are codes in which each operation that goes somewhere names the instruction behind them, with an empty stack, or with a value there; they go on, and end by a return.
func namers() map[string][]code.Inst {
	return map[string][]code.Inst{
		"jump":   {jump(1)},
		"branch": {load, branch(4), num(1), ret},
		"and":    {load, to(code.OpAnd, 4), num(1), ret},
		"or":     {load, to(code.OpOr, 4), num(1), ret},
		"next":   {num(2), loop, to(code.OpNext, 8), printed(1), pop, pop, num(1), ret},
	}
}

// Each of them names a jump, that names a jump, and so on: on, and back to a step.
func TestNamesOfJumps(t *testing.T) {
	t.Parallel()
	for what, l := range namers() {
		value := what == "and" || what == "or"
		for n := range 6 {
			on := slices.Clone(l)
			for i := range n {
				at := len(on)
				on = append(on, jump(at+2))
				if i%2 == 0 {
					on = append(on, ret) // nobody comes here
				} else {
					on[at].A++
					on = append(on, step, null)
				}
			}
			if !value {
				on = append(on, num(5))
			}
			on = append(on, printed(1), ret)
			q := shorter(t, one(on...))
			wantNoJump(t, fmt.Sprint(what, " over ", n), q)
			if must := len(l) + 3; len(q.Funcs[0].Code) > must {
				t.Errorf("S1.6: %s over %d: %d instructions are left; must be %d\n%s", what, n, len(q.Funcs[0].Code), must, written(q))
			}
			alikeAsked(t, on)
			if !value && n > 0 {
				back := inRow([]code.Inst{step}, moved(1, on[:len(l)]))
				for i := range n {
					back = append(back, jump(len(l)+2+i))
				}
				back[len(back)-1].A = 0
				q = shorter(t, one(back...))
				wantNoJump(t, fmt.Sprint(what, " back over ", n), q)
				alikeAsked(t, back)
			}
		}
	}
}

// wantNoJump: nothing names a jump.
func wantNoJump(t *testing.T, what string, q code.Program) {
	t.Helper()
	l := q.Funcs[0].Code
	for i, in := range l {
		if goesTo(in.Op) && l[in.A].Op == code.OpJump {
			t.Errorf("S1.6: %s: instruction %d names a jump\n%s", what, i, written(q))
		}
	}
}

// What leads back leads to a step or a tick, also when it has been led elsewhere.
func TestBackToSteps(t *testing.T) {
	t.Parallel()
	for _, counted := range []code.Inst{step, tick} {
		l := []code.Inst{counted, load, branch(6), load, branch(7), jump(8), jump(0), jump(9), jump(0), jump(0)}
		q := shorter(t, one(l...))
		becomes(t, "all lead back", l, []code.Inst{counted, load, branch(0), load, branch(0), jump(0)})
		for i, in := range q.Funcs[0].Code {
			if goesTo(in.Op) && in.A <= i && q.Funcs[0].Code[in.A].Op != counted.Op {
				t.Errorf("S1: instruction %d leads back to %s", i, inst(q.Funcs[0].Code[in.A]))
			}
		}
	}
}

// Code that is as short as can be stays as it is.
func TestShortAlready(t *testing.T) {
	t.Parallel()
	for _, l := range [][]code.Inst{
		ends(),
		{step, jump(0)},
		{step, tick, null, ret},
		{load, unary("-"), ret},
		{load, load, binary("+"), ret},
		{num(1), load, binary("+"), ret},
		{load, branch(4), num(1), ret, num(2), ret},
		{load, to(code.OpAnd, 4), load, {Op: code.OpTruth, Text: "&&"}, ret},
		{num(3), loop, jump(6), tick, pop, pop, to(code.OpNext, 8), jump(3), null, ret},
		{to(code.OpPlaceSlot, 0), op(code.OpFetch), num(1), binary("+"), op(code.OpPut), null, ret},
		{yes, op(code.OpDup), unary("!"), binary("=="), ret},
	} {
		becomes(t, inst(l[0]), l, l)
	}
}
