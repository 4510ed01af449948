package peep_test

import (
	"fmt"
	"strings"
	"testing"

	"guise/api"
	"guise/code"
)

// As much code as may be, of many shapes: it ends, and soon enough.
func TestLimits(t *testing.T) {
	t.Parallel()
	const most = api.MaxCode
	over := func(n int, more func(i int) []code.Inst) []code.Inst {
		var l []code.Inst
		for len(l) < n {
			l = append(l, more(len(l))...)
		}
		return l
	}
	for _, c := range []struct {
		what string
		l    []code.Inst
		left int
	}{
		{"a sum from the left", inRow([]code.Inst{num(1)}, times(most/2-1, num(1), binary("+")), []code.Inst{ret}), 2},
		{"a sum from the right", inRow(times(most/2, num(1)), times(most/2-1, binary("+")), []code.Inst{ret}), 2},
		{"a bool that is turned", inRow([]code.Inst{yes}, times(most-2, unary("!")), []code.Inst{ret}), 2},
		{"jumps to the one behind", inRow(over(most-2, func(i int) []code.Inst { return []code.Inst{jump(i + 1)} }), ends()), 2},
		{"jumps over one another", inRow(over(most-4, func(i int) []code.Inst { return []code.Inst{jump(i + 2)} }), ends(), ends()), 2},
		{"a ring", inRow([]code.Inst{step}, over(most-2, func(i int) []code.Inst { return []code.Inst{jump(i + 2)} }), []code.Inst{jump(0)}), 2},
		{"nobody comes there", inRow(ends(), times(most-4, step), ends()), 2},
		{"conditions", inRow(over(most-2, func(i int) []code.Inst { return []code.Inst{yes, branch(most - 2)} }), ends()), 2},
		{"conditions that are false", inRow(over(most-2, func(i int) []code.Inst { return []code.Inst{no, branch(i + 2)} }), ends()), 2},
		{"one name for all", inRow(over(most-2, func(i int) []code.Inst { return []code.Inst{load, branch(most - 2)} }), ends()), most},
		{"loops that nobody comes to, one behind the other", stages((most - 3) / 9), 2},
		{"and from behind", outsideIn((most - 4) / 8), 2},
		{"steps", inRow(times(most-2, step), ends()), most},
		{"all lead back", inRow([]code.Inst{step}, times((most-3)/2, load, branch(0)), ends()), most - 1},
	} {
		t.Run(c.what, func(t *testing.T) {
			t.Parallel()
			q := shorter(t, one(c.l...))
			if len(c.l) > most || len(c.l) < most-10 {
				t.Errorf("%d instructions were asked", len(c.l))
			}
			if got := len(q.Funcs[0].Code); got != c.left {
				t.Errorf("S1: %d instructions are left; must be %d", got, c.left)
			}
		})
	}
}

// As many functions, variables and taken variables as may be, and the longest texts.
func TestManyFunctions(t *testing.T) {
	t.Parallel()
	p := code.Program{Funcs: []code.Func{{Around: -1, Slots: api.MaxNodes, Code: []code.Inst{jump(1), null, ret}}}}
	for i := 1; i < api.MaxNodes; i++ {
		p.Globals = append(p.Globals, fmt.Sprint("g", i))
		p.Funcs = append(p.Funcs, code.Func{Around: -1, Name: fmt.Sprint("f", i), Code: []code.Inst{num(i), unary("-"), ret}})
	}
	p.Funcs[9] = code.Func{Around: 0, Name: "func", Taken: make([]int, api.MaxNodes), Code: []code.Inst{jump(1), null, ret}}
	q := shorter(t, p)
	if count(q) != 2*api.MaxNodes || q.Funcs[5].Code[0].Text != "-5" {
		t.Errorf("S1: %d instructions are left", count(q))
	}
	long := code.Inst{Op: code.OpText, Text: strings.Repeat("t", api.MaxText)}
	becomes(t, "long texts", []code.Inst{long, long, binary("=="), num(1), unary("-"), pop, ret}, []code.Inst{long, long, binary("=="), num(-1), pop, ret})
}

// The deepest stack that may be.
func TestDeepest(t *testing.T) {
	t.Parallel()
	l := inRow(times(30000, num(1)), []code.Inst{binary("-"), binary("+")}, times(29998, pop))
	l = append(l[:len(l)-1], ret)
	q := shorter(t, one(l...))
	if got := len(q.Funcs[0].Code); got != len(l)-4 {
		t.Errorf("S1: %d instructions are left of %d", got, len(l))
	}
}
