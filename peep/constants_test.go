package peep_test

import (
	"fmt"
	"slices"
	"strings"
	"testing"

	"guise/code"
)

// someConstants are ints, those at the limits too, and both bools.
func someConstants() []code.Inst {
	out := []code.Inst{yes, no}
	for _, n := range someInts {
		out = append(out, num(n))
	}
	return out
}

// S1.4: each operation of one constant: with a fault it stays, else what it makes stands there.
func TestUnaries(t *testing.T) {
	t.Parallel()
	made := map[string]int{}
	for _, sign := range strings.Fields(unaries) {
		for _, a := range someConstants() {
			l := []code.Inst{a, unary(sign), ret}
			must := l
			if in, is := workedOut(l[:1], l[1]); is {
				must = []code.Inst{in, ret}
				made[sign]++
			}
			becomes(t, inst(a)+" "+sign, l, must)
		}
	}
	ints := len(someInts)
	if fmt.Sprint(made) != fmt.Sprint(map[string]int{"-": ints, "^": ints, "++": ints, "--": ints, "!": 2}) {
		t.Errorf("so many had no fault: %v", made)
	}
}

// S1.4: each operation of two.
func TestBinaries(t *testing.T) {
	t.Parallel()
	for _, sign := range strings.Fields(binaries) {
		t.Run(sign, func(t *testing.T) {
			t.Parallel()
			stays := 0
			for _, a := range someConstants() {
				for _, b := range someConstants() {
					l := []code.Inst{a, b, binary(sign), ret}
					must := l
					if in, is := workedOut(l[:2], l[2]); is {
						must = []code.Inst{in, ret}
					} else {
						stays++
					}
					becomes(t, inst(a)+" "+inst(b)+" "+sign, l, must)
				}
			}
			ints := len(someInts)
			must := 2*2 + 2*2*ints // with a bool
			switch sign {
			case "==", "!=":
				must = 0
			case "/", "%":
				must += ints
			case "<<", ">>":
				must += 4 * ints // by less than 0
			}
			if stays != must {
				t.Errorf("%d had a fault; must be %d", stays, must)
			}
		})
	}
}

// What some operations make, as it is written.
func TestWorkedOut(t *testing.T) {
	t.Parallel()
	const most, least = 9223372036854775807, -9223372036854775808
	for _, c := range []struct {
		l    []code.Inst
		must code.Inst
	}{
		{[]code.Inst{num(most), unary("++")}, num(least)},
		{[]code.Inst{num(least), unary("--")}, num(most)},
		{[]code.Inst{num(least), unary("-")}, num(least)},
		{[]code.Inst{num(0), unary("-")}, num(0)},
		{[]code.Inst{num(0), unary("^")}, num(-1)},
		{[]code.Inst{yes, unary("!")}, no},
		{[]code.Inst{num(most), num(1), binary("+")}, num(least)},
		{[]code.Inst{num(least), num(-1), binary("/")}, num(least)},
		{[]code.Inst{num(least), num(-1), binary("%")}, num(0)},
		{[]code.Inst{num(-7), num(2), binary("/")}, num(-3)},
		{[]code.Inst{num(-7), num(2), binary("%")}, num(-1)},
		{[]code.Inst{num(1), num(63), binary("<<")}, num(least)},
		{[]code.Inst{num(1), num(64), binary("<<")}, num(0)},
		{[]code.Inst{num(-1), num(most), binary(">>")}, num(-1)},
		{[]code.Inst{num(1), yes, binary("==")}, no},
		{[]code.Inst{no, num(0), binary("!=")}, yes},
		{[]code.Inst{no, no, binary("==")}, yes},
		{[]code.Inst{num(3), num(2), binary("-")}, num(1)},
		{[]code.Inst{num(3), num(2), binary(">")}, yes},
	} {
		becomes(t, inst(c.l[len(c.l)-1]), append(c.l, ret), []code.Inst{c.must, ret})
	}
}

// Operations of other things stay: only ints and bools are constants.
func TestNoConstants(t *testing.T) {
	t.Parallel()
	float := code.Inst{Op: code.OpFloat, Text: "3ff0000000000000"}
	text := code.Inst{Op: code.OpText, Text: "a"}
	for _, other := range []code.Inst{float, text, null, load, {Op: code.OpNilOf, Text: "list"}, to(code.OpList, 0)} {
		for _, l := range [][]code.Inst{
			{other, unary("-"), ret},
			{other, other, binary("=="), ret},
			{other, num(1), binary("+"), ret},
			{num(1), other, binary("=="), ret},
			{num(1), other, num(2), binary("+"), binary("=="), ret},
		} {
			becomes(t, inst(other), l, l)
		}
	}
	becomes(t, "behind another", []code.Inst{load, num(1), num(2), binary("+"), binary("+"), ret}, []code.Inst{load, num(3), binary("+"), ret})
	becomes(t, "ahead of another", []code.Inst{num(1), unary("-"), load, binary("+"), ret}, []code.Inst{num(-1), load, binary("+"), ret})
	becomes(t, "with something between", []code.Inst{num(1), step, unary("-"), num(2), step, binary("+"), ret}, []code.Inst{num(1), step, unary("-"), num(2), step, binary("+"), ret})
}

// What an operation makes is a constant of another one, however often.
func TestRowsOfOperations(t *testing.T) {
	t.Parallel()
	for n := range 40 {
		sum := n * (n + 1) / 2
		var left, right, turned []code.Inst
		for i := range n {
			left = append(left, num(i+1), binary("+"))
			right = append(right, num(i+1))
			turned = append(turned, unary([]string{"-", "^"}[i%2]))
		}
		becomes(t, "from the left", inRow([]code.Inst{num(0)}, left, []code.Inst{ret}), []code.Inst{num(sum), ret})
		becomes(t, "from the right", inRow([]code.Inst{num(0)}, right, times(n, binary("+")), []code.Inst{ret}), []code.Inst{num(sum), ret})
		becomes(t, "turned", inRow([]code.Inst{num(5)}, turned, []code.Inst{ret}), []code.Inst{num((5 - n/2) * (1 - n%2*2)), ret})
	}
	becomes(t, "all kinds", []code.Inst{num(2), num(3), binary("*"), num(6), binary("=="), unary("!"), yes, binary("!="), branch(11), num(1), ret, num(2), ret}, []code.Inst{num(1), ret})
}

// A fault on the way stays, and what hangs on it; the rest does not.
func TestFaultsWithin(t *testing.T) {
	t.Parallel()
	becomes(t, "ahead", []code.Inst{num(1), num(0), binary("/"), num(2), num(3), binary("+"), binary("+"), ret}, []code.Inst{num(1), num(0), binary("/"), num(5), binary("+"), ret})
	becomes(t, "behind", []code.Inst{num(6), num(2), num(2), binary("-"), binary("/"), ret}, []code.Inst{num(6), num(0), binary("/"), ret})
	becomes(t, "a fault of a bool", []code.Inst{num(1), num(2), binary("<"), unary("-"), ret}, []code.Inst{yes, unary("-"), ret})
	becomes(t, "a fault of both", []code.Inst{num(1), yes, unary("!"), binary("+"), ret}, []code.Inst{num(1), no, binary("+"), ret})
	becomes(t, "a fault of a fault", []code.Inst{yes, unary("++"), unary("!"), ret}, []code.Inst{yes, unary("++"), unary("!"), ret})
	becomes(t, "less than 0", []code.Inst{num(1), num(1), unary("-"), binary("<<"), ret}, []code.Inst{num(1), num(-1), binary("<<"), ret})
}

// A mark between constants and their operation: it is come to with other things, too.
func TestMarksBetween(t *testing.T) {
	t.Parallel()
	for _, c := range []struct {
		what    string
		l, must []code.Inst
	}{
		{"at the unary", []code.Inst{load, branch(4), num(1), jump(5), num(2), unary("-"), ret}, nil},
		{"at the binary", []code.Inst{num(1), load, branch(5), num(2), jump(6), num(3), binary("+"), ret}, nil},
		{"at the second one", []code.Inst{load, branch(4), num(1), jump(5), num(2), num(3), binary("+"), ret}, nil},
		{"at the second one and the binary", []code.Inst{load, branch(4), num(1), jump(5), num(2), num(3), load, branch(10), num(4), binary("+"), binary("+"), ret}, nil},
		{"at the first one", []code.Inst{load, branch(2), num(1), num(2), binary("+"), ret}, []code.Inst{load, branch(2), num(3), ret}},
		{"at the first one of one", []code.Inst{load, branch(2), num(1), unary("-"), ret}, []code.Inst{load, branch(2), num(-1), ret}},
		{"at the first one, of what was made", []code.Inst{load, branch(4), num(4), jump(5), num(5), num(1), unary("-"), binary("+"), ret}, []code.Inst{load, branch(4), num(4), jump(5), num(5), num(-1), binary("+"), ret}},
		{"by one that is not come to", []code.Inst{num(1), jump(4), num(9), jump(4), unary("-"), ret}, []code.Inst{num(-1), ret}},
		{"by one that is not come to, at the second one", []code.Inst{num(1), num(2), jump(5), num(9), jump(5), binary("+"), ret}, []code.Inst{num(3), ret}},
		{"by a jump that goes", []code.Inst{num(1), jump(2), num(2), jump(4), binary("+"), ret}, []code.Inst{num(3), ret}},
		{"by a branch that goes", []code.Inst{num(1), yes, branch(3), unary("-"), ret}, []code.Inst{num(-1), ret}},
		{"handed on from a branch that goes", []code.Inst{load, branch(4), num(1), jump(5), num(2), yes, branch(8), unary("-"), ret}, []code.Inst{load, branch(4), num(1), jump(5), num(2), unary("-"), ret}},
		{"handed on from two", []code.Inst{load, branch(4), num(1), jump(5), num(2), yes, branch(9), no, branch(10), unary("^"), unary("-"), ret}, []code.Inst{load, branch(4), num(1), jump(5), num(2), unary("-"), ret}},
	} {
		if c.must == nil {
			c.must = c.l
		}
		becomes(t, c.what, c.l, c.must)
	}
}

// The place of what was made may be any; the places of events are as they were.
func TestPlaces(t *testing.T) {
	t.Parallel()
	l := []code.Inst{step, num(1), num(2), binary("+"), printed(1), pop, step, no, branch(10), step, step, yes, unary("!"), ret}
	for i := range l {
		l[i].At = 60000 - i
	}
	q := shorter(t, one(l...))
	var steps []int
	for _, in := range q.Funcs[0].Code {
		if in.Op == code.OpStep {
			steps = append(steps, in.At)
		}
	}
	if !slices.Equal(steps, []int{60000, 59994, 59990}) {
		t.Errorf("S1.2: steps at %v\n%s", steps, written(q))
	}
	alikeAsked(t, l)
}
