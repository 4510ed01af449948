package code_test

import (
	"testing"

	"guise/code"
)

func TestExamples(t *testing.T) {
	list, put := to(code.OpList, 0), op(code.OpPut)
	for _, c := range []struct {
		what string
		l    []code.Inst
		must string
	}{
		{"[nil; return]", ends(), "ok"},
		{"[return]", []code.Inst{ret}, "130 0 0"},
		{"[nil]", []code.Inst{null}, "130 0 0"},
		{"[]", nil, "130 0"},
		{"[step; nil; pop; jump 0]", []code.Inst{step, null, pop, jump(0)}, "ok"},
		{"[nil; pop; jump 0]", []code.Inst{null, pop, jump(0)}, "130 0 2"},
		{"[bool 1; branch 4; ..]", []code.Inst{yes, branch(4), null, ret, null, ret}, "ok"},
		{"[bool 1; branch 3; ..]", []code.Inst{yes, branch(3), null, null, ret}, "130 0 3"},
		{"[list 0; turn; next 5; ..]", []code.Inst{list, turn, to(code.OpNext, 5), pop, jump(2), null, ret}, "130 0 4"},
		{"[list 0; turn; step; next 7; ..]", []code.Inst{list, turn, step, to(code.OpNext, 7), pop, pop, jump(2), null, ret}, "ok"},
		{"[placeslot 0; nil; put; ..]", []code.Inst{to(code.OpPlaceSlot, 0), null, put, null, ret}, "ok"},
		{"[nil; nil; put; ..]", []code.Inst{null, null, put, null, ret}, "130 0 2"},
		{`[int "007"; return]`, []code.Inst{text(code.OpInt, 0, "007"), ret}, "130 0 0"},
		{`[int "-0"; return]`, []code.Inst{text(code.OpInt, 0, "-0"), ret}, "130 0 0"},
		{"[load 1; return]", []code.Inst{to(code.OpLoad, 1), ret}, "130 0 0"},
		{`[struct 1 "T f g"; ..]`, []code.Inst{text(code.OpStruct, 1, "T f g"), ret}, "130 0 0"},
		{`[unary "&"; ..]`, []code.Inst{text(code.OpUnary, 0, "&"), ret}, "130 0 0"},
	} {
		wantRight(t, c.what, one(c.l...), c.must)
	}
}

func TestExampleBytes(t *testing.T) {
	b := encoded(t, one(ends()...))
	must := "GC01" + string([]byte{0, 2, 0, 0, 2, 0, 1, 4, 14, 0, 0, 0, 0, 100, 0, 0, 0, 0})
	is(t, "P13.3: Encode", b, must)
	is(t, "P13.3: Decode", decode(t, must), written(one(ends()...)))
}

// operations are the names as lines tell them, written out in the order of the constants, with these.
var operations = []struct {
	op   code.Op
	name string
}{
	{code.OpStep, "step"}, {code.OpTick, "tick"}, {code.OpInt, "int"}, {code.OpFloat, "float"}, {code.OpText, "text"},
	{code.OpBool, "bool"}, {code.OpNil, "nil"}, {code.OpNilOf, "nilof"}, {code.OpLoad, "load"}, {code.OpGlobal, "global"},
	{code.OpTaken, "taken"}, {code.OpFresh, "fresh"}, {code.OpStore, "store"}, {code.OpStoreGlobal, "storeglobal"},
	{code.OpStoreTaken, "storetaken"}, {code.OpPop, "pop"}, {code.OpDup, "dup"}, {code.OpUnary, "unary"},
	{code.OpBinary, "binary"}, {code.OpTruth, "truth"}, {code.OpConvert, "convert"}, {code.OpSelect, "select"},
	{code.OpExpression, "expression"}, {code.OpIndex, "index"}, {code.OpIndexTwo, "indextwo"}, {code.OpSlice, "slice"},
	{code.OpList, "list"}, {code.OpMap, "map"}, {code.OpStruct, "struct"}, {code.OpObject, "object"},
	{code.OpLiteral, "literal"}, {code.OpAssert, "assert"}, {code.OpHolds, "holds"}, {code.OpJump, "jump"},
	{code.OpBranch, "branch"}, {code.OpAnd, "and"}, {code.OpOr, "or"}, {code.OpPlaceSlot, "placeslot"},
	{code.OpPlaceGlobal, "placeglobal"}, {code.OpPlaceTaken, "placetaken"}, {code.OpPlaceOf, "placeof"},
	{code.OpPlaceIndex, "placeindex"}, {code.OpPlaceField, "placefield"}, {code.OpFetch, "fetch"}, {code.OpPut, "put"},
	{code.OpCall, "call"}, {code.OpBuilt, "built"}, {code.OpDefer, "defer"}, {code.OpDeferBuilt, "deferbuilt"},
	{code.OpReturn, "return"}, {code.OpTurn, "turn"}, {code.OpNext, "next"}, {code.OpDrop, "drop"},
}

// The chapter's example tells two of the numbers; the others follow from the order.
func TestOperationsAreNumbered(t *testing.T) {
	for i, o := range operations {
		if int(o.op) != i+1 {
			t.Errorf("%s is %d, must be %d", o.name, o.op, i+1)
		}
	}
	if code.OpNil != 7 || code.OpReturn != 50 || len(operations) != 53 {
		t.Error("the operations are numbered otherwise than the chapter's example says")
	}
}
