package code_test

import (
	"fmt"
	"strconv"
	"strings"
	"testing"

	"guise/api"
	"guise/code"
)

// many is so many functions, the first one the beginning, all of one code.
func many(n int, l ...code.Inst) code.Program {
	var p code.Program
	for i := range n {
		f := declared("f"+strconv.Itoa(i), l...)
		if i == 0 {
			f.Name = ""
		}
		p.Funcs = append(p.Funcs, f)
	}
	return p
}

func manyNames(n int) []string {
	var out []string
	for i := range n {
		out = append(out, "g"+strconv.Itoa(i))
	}
	return out
}

// wantThereAndBack: a right program is what comes of its bytes and of its lines.
func wantThereAndBack(t testing.TB, what string, p code.Program) {
	t.Helper()
	b, s := encoded(t, p), listed(t, p)
	q, err := code.Decode(b)
	if err != nil || !code.Same(p, q) {
		t.Errorf("P13.6: %s: Decode of Encode is another program, or %v", what, err)
	}
	q, err = code.Read(s)
	if err != nil || !code.Same(p, q) {
		t.Errorf("P13.6: %s: Read of List is another program, or %v", what, err)
	}
}

// wantBack: of a program that is not right Decode tells what Right tells, and Read its code.
func wantBack(t testing.TB, what string, p code.Program, must string) {
	t.Helper()
	is(t, "P13.3: Decode: "+what, decode(t, modelEncode(p)), must)
	first, _, _ := strings.Cut(must, " ")
	is(t, "P13.4: Read: "+what, read(t, modelList(p)), first+" 0")
}

func wantLimit(t *testing.T, what string, p code.Program, must string) {
	t.Helper()
	wantRight(t, what, p, must)
	if must == "ok" {
		wantThereAndBack(t, what, p)
	} else {
		wantBack(t, what, p, must)
	}
}

func TestManyFunctions(t *testing.T) {
	wantLimit(t, "no function", code.Program{}, "22 0")
	wantLimit(t, "no function, and variables", code.Program{Globals: []string{"a", "a"}}, "22 0")
	wantLimit(t, "one function", many(1, ends()...), "ok")
	wantLimit(t, "as many functions as may be", many(api.MaxNodes, ends()...), "ok")
	wantLimit(t, "a function more", many(api.MaxNodes+1, ends()...), "22 0")
	wantLimit(t, "as many functions as may be, with as much code", many(api.MaxNodes, null, step, ret), "ok")
}

func TestManyGlobals(t *testing.T) {
	p := many(1, null, to(code.OpStoreGlobal, api.MaxNodes-1), null, ret)
	p.Globals = manyNames(api.MaxNodes)
	wantLimit(t, "as many variables as may be", p, "ok")
	p.Globals = manyNames(api.MaxNodes + 1)
	wantLimit(t, "a variable more", p, "22 0")
	p.Globals = manyNames(api.MaxNodes - 1)
	wantLimit(t, "a variable that there is not", p, "130 0 1")
}

func TestManyInstructions(t *testing.T) {
	l := inRow(times(api.MaxCode-2, step), ends())
	wantLimit(t, "as many instructions as may be", one(l...), "ok")
	wantLimit(t, "an instruction more", one(append([]code.Inst{step}, l...)...), "22 0")
	half := inRow(times(api.MaxCode/2-2, step), ends())
	wantLimit(t, "as many in two functions", program(beginning(half...), declared("f", half...)), "ok")
	wantLimit(t, "one more in two functions", program(beginning(half...), declared("f", append([]code.Inst{tick}, half...)...)), "22 0")
	wantLimit(t, "one more, in a function by itself", program(beginning(half...), declared("f", half...), declared("g", ret)), "22 0")
	wantLimit(t, "a function without code beside", program(beginning(half...), declared("f", half...), declared("g")), "130 2")
}

func TestManySlots(t *testing.T) {
	for number := range 3 {
		p := many(3, ends()...)
		f := &p.Funcs[number]
		f.Slots = api.MaxNodes
		f.Code = []code.Inst{to(code.OpLoad, api.MaxNodes-1), ret}
		wantLimit(t, "as many slots as may be", p, "ok")
		f.Slots++
		wantLimit(t, "a slot more", p, wrong(api.ErrMany, number, ""))
		f.Slots = api.MaxNodes - 1
		wantLimit(t, "a slot that there is not", p, wrongCode(number, 0))
	}
}

func TestManyTaken(t *testing.T) {
	p := program(beginning(ends()...), declared("f", ends()...), literal(1, nil, to(code.OpTaken, api.MaxNodes-1), ret), literal(2, nil, ends()...))
	p.Funcs[1].Slots = api.MaxNodes
	for i := range api.MaxNodes {
		p.Funcs[2].Taken = append(p.Funcs[2].Taken, i)
		p.Funcs[3].Taken = append(p.Funcs[3].Taken, -1-i)
	}
	wantLimit(t, "as many taken as may be", p, "ok")
	p.Funcs[3].Taken = append(p.Funcs[3].Taken, 0)
	wantLimit(t, "one more taken", p, "22 3")
	p.Funcs[2].Taken = append(p.Funcs[2].Taken, 0)
	wantLimit(t, "one more taken, in two", p, "22 2")
	p.Funcs[2].Taken, p.Funcs[3].Taken = p.Funcs[2].Taken[:5], nil
	wantLimit(t, "one that is not taken", p, "130 2 0")
}

// 30000 things lie on a stack, and no more: values, places, turns, and all of them.
func TestManyThings(t *testing.T) {
	values := times(29999, null)
	wantLimit(t, "30000 values", one(inRow(values, []code.Inst{null, ret})...), "ok")
	wantLimit(t, "30001 values", one(inRow(values, []code.Inst{null, null, ret})...), "130 0 30000")
	wantLimit(t, "a place more", one(inRow(values, []code.Inst{null, to(code.OpPlaceSlot, 0), null, ret})...), "130 0 30000")
	wantLimit(t, "a dup", one(inRow(values, []code.Inst{op(code.OpDup), ret})...), "ok")
	wantLimit(t, "a dup more", one(inRow(values, []code.Inst{null, op(code.OpDup), ret})...), "130 0 30000")
	wantLimit(t, "a holds", one(inRow(values, []code.Inst{to(code.OpHolds, 2), ret})...), "ok")
	wantLimit(t, "a holds more", one(inRow(values, []code.Inst{null, to(code.OpHolds, 2), ret})...), "130 0 30000")
	wantLimit(t, "an index of the topmost", one(inRow(values, []code.Inst{null, op(code.OpIndexTwo), op(code.OpIndex), ret})...), "ok")
	wantLimit(t, "a list of the topmost", one(inRow(values, []code.Inst{null, to(code.OpList, 20000), null, ret})...), "ok")
	wantLimit(t, "a list of none", one(inRow(values, []code.Inst{null, to(code.OpList, 0), null, ret})...), "130 0 30000")
	places := times(29998, to(code.OpPlaceSlot, 0))
	wantLimit(t, "a fetch", one(inRow(places, []code.Inst{null, op(code.OpPlaceOf), op(code.OpFetch), ret})...), "ok")
	wantLimit(t, "a fetch more", one(inRow(places, []code.Inst{null, null, op(code.OpPlaceOf), op(code.OpFetch), ret})...), "130 0 30001")
	next := func(n int) []code.Inst {
		return inRow(times(n, null), []code.Inst{null, turn, to(code.OpNext, n+4), ret, null, ret})
	}
	wantLimit(t, "a next", one(next(29997)...), "ok")
	wantLimit(t, "a next more", one(next(29998)...), "130 0 30000")
	wantLimit(t, "an and", one(inRow(values, []code.Inst{null, to(code.OpAnd, 30003), null, ret, ret})...), "ok")
	wantLimit(t, "an and, and one more", one(inRow(values, []code.Inst{null, to(code.OpOr, 30003), null, ret, null, ret})...), "130 0 30003")
}

// 30000 things of which no two on one another are alike.
func TestManyUnlikeThings(t *testing.T) {
	var l []code.Inst
	for range 10000 {
		l = append(l, null, to(code.OpPlaceSlot, 0), null, turn)
	}
	wantLimit(t, "three kinds in turn", one(inRow(l[:len(l)-4], []code.Inst{null, null, null, ret})...), "ok")
	wantLimit(t, "one more", one(inRow(l, []code.Inst{null, ret})...), wrongCode(0, len(l)))
}

func TestManyCounted(t *testing.T) {
	values := times(api.MaxNodes, null)
	for _, o := range []code.Op{code.OpList, code.OpCall, code.OpDefer} {
		wantLimit(t, "as many as may be", one(inRow(values, []code.Inst{null, to(o, api.MaxNodes), null, ret})...), "ok")
		wantLimit(t, "one more", one(inRow(values, []code.Inst{null, null, to(o, api.MaxNodes+1), null, ret})...), wrongCode(0, api.MaxNodes+2))
	}
	for _, o := range []code.Op{code.OpBuilt, code.OpDeferBuilt} {
		wantLimit(t, "as many as may be", one(inRow(values, []code.Inst{text(o, api.MaxNodes, "print"), null, ret})...), "ok")
		wantLimit(t, "one more", one(inRow(values, []code.Inst{null, text(o, api.MaxNodes+1, "print"), null, ret})...), wrongCode(0, api.MaxNodes+1))
	}
	wantLimit(t, "as many pairs as can lie there", one(inRow(times(30000, null), []code.Inst{to(code.OpMap, 15000), ret})...), "ok")
	wantLimit(t, "a pair more than lies there", one(inRow(times(30000, null), []code.Inst{to(code.OpMap, 15001), ret})...), "130 0 30000")
	wantLimit(t, "as many pairs as may be, where nobody comes", one(null, ret, to(code.OpMap, api.MaxNodes), ret), "ok")
	wantLimit(t, "a pair more, where nobody comes", one(null, ret, to(code.OpMap, api.MaxNodes+1), ret), "130 0 2")
	turns := times(api.MaxNodes, null, turn)
	wantLimit(t, "as many turns as may be", one(inRow(turns, []code.Inst{to(code.OpDrop, api.MaxNodes), null, ret})...), "ok")
	wantLimit(t, "a turn more than there are", one(inRow(turns[2:], []code.Inst{to(code.OpDrop, api.MaxNodes), null, ret})...), wrongCode(0, 2*api.MaxNodes-2))
	wantLimit(t, "a turn more", one(inRow(turns, []code.Inst{null, turn, to(code.OpDrop, api.MaxNodes+1), null, ret})...), wrongCode(0, 2*api.MaxNodes+2))
}

func TestLongTexts(t *testing.T) {
	for _, fill := range []string{"a", "\xff", "\"", "\n"} {
		long := strings.Repeat(fill, api.MaxText)
		wantLimit(t, "the longest text", one(text(code.OpText, 0, long), ret), "ok")
		p := one(text(code.OpText, 0, long+"a"), ret)
		wantRight(t, "a byte more", p, "130 0 0")
		is(t, "P13.3: Decode of a text that is too long", decode(t, modelEncode(p)), "130 0 0")
	}
	// Lines refuse it by themselves.
	is(t, "P13.4: Read of a text that is too long", read(t, "globals\nfunc - 0 1 -1\n\ttext 0 0 0 \""+strings.Repeat("a", api.MaxText+1)+"\"\n\treturn 0 0 0\n"), "130 3")
}

func TestPlaces(t *testing.T) {
	for _, at := range []int{0, 1, 63, 64, 8191, 8192, api.MaxSource} {
		wantLimit(t, fmt.Sprint("the place ", at), one(code.Inst{Op: code.OpNil, At: at}, code.Inst{Op: code.OpReturn, At: at}), "ok")
	}
	for _, at := range []int{-1, api.MaxSource + 1, 1 << 40, -1 << 63, 1<<63 - 1} {
		wantLimit(t, fmt.Sprint("the place ", at), one(null, code.Inst{Op: code.OpReturn, At: at}), "130 0 1")
	}
}

// However many ways there are back and forth, and however much lies there, the walk ends soon.
func TestLongWays(t *testing.T) {
	var low, high []code.Inst
	n := 14999
	for k := range n {
		low = append(low, tick, jump(1+2*n+k))
		high = append(high, jump(1+2*((k+1)%n)))
	}
	l := inRow([]code.Inst{jump(1 + 2*n)}, low, high, ends())
	wantLimit(t, "ways back and forth", one(l...), "ok")
	deep := times(29000, null)
	for range 7000 {
		deep = append(deep, yes, branch(len(deep)+4), to(code.OpList, 20000), ret)
	}
	wantLimit(t, "thousands of things taken thousands of times", one(inRow(deep, ends())...), "ok")
}
