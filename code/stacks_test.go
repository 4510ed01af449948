package code_test

import (
	"fmt"
	"strings"
	"testing"

	"guise/code"
)

// effects are the rows' last column, written out once more: what is taken, what lies there then, going on and where A leads.
var effects = []struct {
	in              code.Inst
	takes, on, away string
}{
	{step, "", "", ""}, {tick, "", "", ""},
	{text(code.OpInt, 0, "1"), "", "v", ""}, {text(code.OpFloat, 0, "0000000000000000"), "", "v", ""}, {text(code.OpText, 0, "a"), "", "v", ""},
	{yes, "", "v", ""}, {null, "", "v", ""}, {text(code.OpNilOf, 1, "T"), "", "v", ""},
	{to(code.OpLoad, 1), "", "v", ""}, {to(code.OpGlobal, 1), "", "v", ""}, {to(code.OpTaken, 1), "", "v", ""},
	{to(code.OpPlaceSlot, 1), "", "p", ""}, {to(code.OpPlaceGlobal, 1), "", "p", ""}, {to(code.OpPlaceTaken, 1), "", "p", ""},
	{to(code.OpFresh, 0), "v", "", ""}, {to(code.OpStore, 0), "v", "", ""}, {to(code.OpStoreGlobal, 0), "v", "", ""}, {to(code.OpStoreTaken, 0), "v", "", ""},
	{pop, "v", "", ""}, {op(code.OpDup), "v", "vv", ""},
	{text(code.OpUnary, 0, "-"), "v", "v", ""}, {text(code.OpUnary, 0, "*"), "v", "v", ""}, {text(code.OpUnary, 0, "++"), "v", "v", ""},
	{text(code.OpBinary, 0, "+"), "vv", "v", ""}, {text(code.OpBinary, 0, "=="), "vv", "v", ""}, {text(code.OpTruth, 0, "&&"), "v", "v", ""},
	{text(code.OpConvert, 1, "T"), "v", "v", ""}, {text(code.OpSelect, 0, "f"), "v", "v", ""}, {text(code.OpSelect, 1, "f"), "v", "v", ""}, {text(code.OpExpression, 0, "T m"), "", "v", ""},
	{op(code.OpIndex), "vv", "v", ""}, {op(code.OpIndexTwo), "vv", "vv", ""},
	{to(code.OpSlice, 2), "vvv", "v", ""}, {to(code.OpSlice, 3), "vvvv", "v", ""}, {code.Inst{Op: code.OpSlice, A: 2, B: 1}, "vv", "v", ""},
	{code.Inst{Op: code.OpSlice, A: 2, B: 2}, "vv", "v", ""}, {code.Inst{Op: code.OpSlice, A: 2, B: 3}, "v", "v", ""}, {code.Inst{Op: code.OpSlice, A: 3, B: 1}, "vvv", "v", ""},
	{to(code.OpList, 0), "", "v", ""}, {to(code.OpList, 1), "v", "v", ""}, {to(code.OpList, 4), "vvvv", "v", ""},
	{to(code.OpMap, 0), "", "v", ""}, {to(code.OpMap, 1), "vv", "v", ""}, {to(code.OpMap, 3), "vvvvvv", "v", ""},
	{text(code.OpStruct, 0, "T"), "", "v", ""}, {text(code.OpStruct, 2, "T f g"), "vv", "v", ""},
	{op(code.OpObject), "v", "v", ""}, {to(code.OpLiteral, 1), "", "v", ""}, {text(code.OpAssert, 0, "any"), "v", "v", ""}, {text(code.OpHolds, 0, "any"), "v", "vv", ""}, {to(code.OpHolds, 2), "v", "vv", ""},
	{jump(there), "", "-", ""}, {branch(there), "v", "", ""}, {to(code.OpAnd, there), "v", "", "v"}, {to(code.OpOr, there), "v", "", "v"},
	{op(code.OpPlaceOf), "v", "p", ""}, {op(code.OpPlaceIndex), "vv", "p", ""}, {text(code.OpPlaceField, 0, "f"), "v", "p", ""}, {text(code.OpPlaceField, 0, "f"), "p", "p", ""},
	{op(code.OpFetch), "p", "pv", ""}, {op(code.OpPut), "pv", "", ""},
	{to(code.OpCall, 0), "v", "v", ""}, {to(code.OpCall, 3), "vvvv", "v", ""}, {text(code.OpBuilt, 0, "recover"), "", "v", ""}, {text(code.OpBuilt, 2, "copy"), "vv", "v", ""},
	{to(code.OpDefer, 0), "v", "", ""}, {to(code.OpDefer, 2), "vvv", "", ""}, {text(code.OpDeferBuilt, 0, "print"), "", "", ""}, {text(code.OpDeferBuilt, 2, "print"), "vv", "", ""},
	{ret, "v", "-", ""}, {turn, "v", "t", ""}, {to(code.OpNext, there), "t", "tvv", ""},
	{to(code.OpDrop, 0), "", "", ""}, {to(code.OpDrop, 1), "t", "", ""}, {to(code.OpDrop, 3), "ttt", "", ""},
}

func TestEffectsAreAllRows(t *testing.T) {
	seen := map[code.Op]int{}
	for _, e := range effects {
		seen[e.in.Op]++
	}
	for _, o := range operations {
		if seen[o.op] == 0 {
			t.Errorf("%s is not asked", o.name)
		}
	}
}

// below are stacks that may lie below what is taken.
var below = []string{"", "v", "p", "t", "vpt", "ttvvpp"}

// What is taken must lie there, each thing of it, in its order; what lies below does not matter.
func TestTaken(t *testing.T) {
	for _, e := range effects {
		what := fmt.Sprintf("%s %d", cells[e.in.Op][0], e.in.A)
		for _, under := range below {
			p, _ := around(e.in, under+e.takes)
			wantRight(t, what+" behind "+under+e.takes, p, "ok")
		}
		for i, c := range e.takes {
			if i > 0 || len(e.takes) == 1 {
				p, number := around(e.in, e.takes[i+1:])
				wantRight(t, what+" behind too little", p, wrongCode(host, number))
			}
			for _, other := range "vpt" {
				stack := e.takes[:i] + string(other) + e.takes[i+1:]
				if other == c || e.in.Op == code.OpPlaceField && other != 't' {
					continue
				}
				p, number := around(e.in, "vptv"+stack)
				wantRight(t, what+" behind "+stack, p, wrongCode(host, number))
			}
		}
	}
}

// joined is a program in whose host one way leads over an instruction to a join, and another one by laying things there; and the
// join's number. If away, it is where A leads that is joined.
func joined(in code.Inst, stack, expected string, away bool) (code.Program, int) {
	front, other := pushed(stack), pushed(expected)
	l := []code.Inst{yes, {}}
	l = append(l, front...)
	at := len(l)
	l = append(l, in)
	if away {
		l[at].A = at + 3
		l = append(l, null, ret)
	}
	if goesTo(in.Op) && !away {
		l[at].A = len(l) + 1 + len(other) + 2
	}
	out := len(l)
	l = append(l, code.Inst{})
	l[1] = branch(len(l))
	l = append(l, other...)
	join := len(l)
	l[out] = jump(join)
	l = append(l, null, ret, null, ret)
	return hosted(l), join
}

// wantJoined: the joined stacks are the same with what must lie there, and with nothing else.
func wantJoined(t *testing.T, what string, in code.Inst, stack, lies string, away bool) {
	t.Helper()
	p, _ := joined(in, stack, lies, away)
	wantRight(t, what+" leaves "+lies, p, "ok")
	others := []string{lies + "v", lies + "p", lies + "t", "v" + lies, "t" + lies}
	for i := range lies {
		others = append(others, lies[:i]+lies[i+1:])
		for _, c := range "vpt" {
			others = append(others, lies[:i]+string(c)+lies[i+1:])
		}
	}
	for _, other := range others {
		if other != lies {
			p, join := joined(in, stack, other, away)
			wantRight(t, what+" leaves no "+other, p, wrongCode(host, join))
		}
	}
}

func TestLaid(t *testing.T) {
	for _, e := range effects {
		what := fmt.Sprintf("%s %d %d", cells[e.in.Op][0], e.in.A, e.in.B)
		for _, under := range below {
			if e.on != "-" {
				wantJoined(t, what+" behind "+under+e.takes, e.in, under+e.takes, under+e.on, false)
			}
			if goesTo(e.in.Op) {
				wantJoined(t, what+" behind "+under+e.takes, e.in, under+e.takes, under+e.away, true)
			}
		}
	}
}

// A return takes what lies below with it, whatever that is; each way out may have another stack.
func TestReturnsFromUnlikeStacks(t *testing.T) {
	for _, stack := range []string{"v", "vv", "pv", "tv", "ttppvvv", strings.Repeat("ptv", 50)} {
		wantRight(t, "return behind "+stack, one(append(pushed(stack), ret)...), "ok")
		l := append([]code.Inst{yes, branch(4), null, ret}, append(pushed(stack), ret)...)
		wantRight(t, "return behind "+stack, one(l...), "ok")
	}
	for _, stack := range []string{"", "p", "t", "vp", "vt"} {
		l := pushed(stack)
		wantRight(t, "return behind "+stack, one(append(l, ret)...), wrongCode(0, len(l)))
	}
}

// wantCode: what is told of one function's code; the model tells the same.
func wantCode(t *testing.T, what, must string, l ...code.Inst) {
	t.Helper()
	wantRight(t, what, one(l...), must)
	is(t, "the model: "+what, modelRight(one(l...)), must)
}

// Stacks are handed on by the least number that has not been looked at: to the next one, then to A's.
func TestOrderOfHanding(t *testing.T) {
	p0 := to(code.OpPlaceSlot, 0)
	wantCode(t, "both ways to one: the second one is another stack", "130 0 2", yes, to(code.OpAnd, 2), null, ret)
	wantCode(t, "both ways to one, alike", "ok", yes, branch(2), null, ret)
	wantCode(t, "the next one is looked at ahead of A's", "130 0 4", null, yes, branch(6), pop, pop, ret, pop, ret)
	wantCode(t, "the next one is handed to ahead of A's", "130 0 7", yes, branch(7), yes, branch(8), null, yes, branch(8), null, ret)
	wantCode(t, "also where A's is less", "130 0 6", step, yes, branch(6), null, yes, branch(0), null, ret)
	wantCode(t, "what lies ahead of a way back is looked at first", "130 0 3", jump(4), step, pop, ret, null, jump(1))
	wantCode(t, "the way back has another stack", "130 0 0", step, null, jump(0))
	wantCode(t, "the way back is told at where it leads", "130 0 1", null, step, null, jump(1))
	wantCode(t, "the least number first, though it was come to last", "130 0 2", jump(5), tick, pop, null, ret, jump(1))
	wantCode(t, "the least number first: it is wrong itself", "130 0 2", jump(4), step, ret, null, yes, branch(8), jump(1), null, ret)
	wantCode(t, "the greater number is wrong, too", "130 0 4", yes, branch(5), null, pop, pop, pop, null, ret)
	wantCode(t, "unlike at a later one, wrong at an earlier one", "130 0 4", yes, branch(6), null, p0, pop, null, null, ret)
	wantCode(t, "p and v are unlike", "130 0 5", yes, branch(4), null, jump(5), p0, null, ret)
	wantCode(t, "as many things, but in another order", "130 0 7", yes, branch(5), null, p0, jump(7), p0, null, jump(8), null, ret)
}

// What is not come to need not fit; all else of it is asked.
func TestNotComeTo(t *testing.T) {
	wantCode(t, "behind a return", "ok", null, ret, pop, pop, op(code.OpPut), ret)
	wantCode(t, "behind a jump", "ok", jump(3), pop, ret, null, ret)
	wantCode(t, "two ways with unlike stacks", "ok", null, ret, yes, branch(5), null, null, ret)
	wantCode(t, "a way to what is come to, with another stack", "ok", step, null, ret, null, null, jump(0))
	wantCode(t, "a way on to what is come to", "ok", jump(3), null, null, null, ret)
	wantCode(t, "a loop of its own", "ok", null, ret, tick, null, jump(2))
	wantCode(t, "a field", "130 0 2", null, ret, text(code.OpInt, 0, "x"), ret)
	wantCode(t, "a slot", "130 0 2", null, ret, to(code.OpLoad, 1), ret)
	wantCode(t, "a place in the text", "130 0 3", null, ret, pop, code.Inst{Op: code.OpReturn, At: -1})
	wantCode(t, "a way back", "130 0 3", null, ret, pop, jump(2))
	wantCode(t, "a way to none", "130 0 2", null, ret, jump(4), ret)
	wantCode(t, "the last one", "130 0 2", null, ret, pop)
	wantCode(t, "a function that nobody makes", "ok", ends()...)
	wantRight(t, "functions that nobody makes are asked, too", program(beginning(ends()...), declared("f", ret)), "130 1 0")
	wantRight(t, "literals that nobody makes are asked, too", program(beginning(ends()...), literal(0, nil, null, pop, ret)), "130 1 2")
}

// Ways back to each operation: only steps and ticks may be gone back to.
func TestWaysBack(t *testing.T) {
	for _, e := range effects {
		front := pushed(e.takes)
		in := e.in
		if goesTo(in.Op) {
			in.A = len(front) + 3
		}
		for _, back := range []code.Inst{jump(len(front)), branch(len(front)), to(code.OpAnd, len(front)), to(code.OpOr, len(front)), to(code.OpNext, len(front))} {
			l := inRow(front, []code.Inst{in, null, ret, null, back, null, ret})
			must := wrongCode(host, len(front)+4)
			if in.Op == code.OpStep || in.Op == code.OpTick {
				l = inRow(front, []code.Inst{in, null, ret, back, null, ret})
				must = "ok"
			}
			wantRight(t, fmt.Sprintf("back to %s by %s", cells[in.Op][0], cells[back.Op][0]), hosted(l), must)
		}
	}
	for _, o := range []code.Op{code.OpJump, code.OpBranch, code.OpAnd, code.OpOr, code.OpNext} {
		wantCode(t, "to itself", "130 0 1", null, to(o, 1), null, ret)
		wantCode(t, "to the one behind it", "ok", null, ret, to(o, 3), null, ret)
		wantCode(t, "to the one ahead of it, a step", "ok", null, ret, step, to(o, 2), null, ret)
		wantCode(t, "to the one ahead of it, a tick", "ok", null, ret, tick, to(o, 2), null, ret)
		wantCode(t, "to the last one", "ok", null, ret, to(o, 4), null, ret)
		wantCode(t, "behind the last one", "130 0 2", null, ret, to(o, 5), null, ret)
		wantCode(t, "below 0", "130 0 2", null, ret, to(o, -1), null, ret)
	}
}

// Loops that are come to: by steps, by ticks, with turns.
func TestLoops(t *testing.T) {
	list := to(code.OpList, 0)
	wantCode(t, "for ever", "ok", tick, jump(0))
	wantCode(t, "a condition behind its statements", "ok", jump(4), tick, null, pop, yes, branch(7), jump(1), null, ret)
	wantCode(t, "turns within one another", "ok", list, turn, step, to(code.OpNext, 13), to(code.OpFresh, 0), turn, tick, to(code.OpNext, 11), pop, pop, jump(6), null, ret, null, ret)
	wantCode(t, "out of two turns", "ok", list, turn, list, turn, to(code.OpDrop, 2), null, ret)
	wantCode(t, "out of more turns than there are", "130 0 4", list, turn, list, turn, to(code.OpDrop, 3), null, ret)
	wantCode(t, "a turn more each time", "130 0 2", list, turn, step, to(code.OpNext, 7), pop, turn, jump(2), null, ret)
	wantCode(t, "a value more each time", "130 0 2", list, turn, step, to(code.OpNext, 6), pop, jump(2), null, ret)
}
