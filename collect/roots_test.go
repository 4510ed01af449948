package collect_test

import (
	"fmt"
	"math"
	"testing"

	"guise/api"
	"guise/collect"
	"guise/heap"
)

// naming are data whose Ref names a thing, right or not.
func naming(n int) []api.Datum {
	ref := api.Ref{Object: n}
	return []api.Datum{
		list(n), piece(n, 0, 2, 2), piece(n, 1, 0, 1), piece(n, 1, 1, 1), piece(n, 900, 5, 9), typed("L", list(n)),
		mapping(n), typed("M", mapping(n)), function(n), typed("F", function(n)),
		pointer(n), typed("U", pointer(n)), pointer(n, 0), pointer(n, 1, 2, 3),
		// Data that are not right.
		{Ref: ref}, {Kind: 77, Ref: ref}, {Kind: -1, Type: "?", Ref: ref}, {Kind: math.MaxInt, Ref: ref}, {Kind: api.KBool, Type: "bool", N: 2, Ref: ref},
		{Kind: api.KInt, Type: "int", Ref: ref}, {Kind: api.KFloat, Type: "float", F: 1<<64 - 1, Ref: ref}, {Kind: api.KText, Type: "text", S: "a", Ref: ref},
		{Kind: api.KStruct, Type: "T", Ref: ref}, {Kind: api.KStruct, Ref: ref, Items: data(integer(1), record())}, {Kind: api.KList, Ref: ref},
		piece(n, -1, 5, 2), piece(n, math.MaxInt, math.MinInt, math.MaxInt), typed("int", mapping(n)), pointer(n, -1, 99), pointer(n, make([]int, api.MaxSize+1)...),
		{Kind: api.KMap, Type: "map", Ref: ref, Items: data(pointer(77))},
	}
}

// silent are data that name no thing, though n stands in them.
func silent(n int) []api.Datum {
	hidden := data(pointer(n), list(n), record(mapping(n)))
	out := []api.Datum{
		{}, integer(n), {Kind: api.KFloat, Type: "float", F: uint64(n)}, {Kind: api.KText, Type: "text", S: fmt.Sprint(n)}, record(integer(n)), record(),
		piece(0, 0, 0, 0), mapping(0), function(0), pointer(0), typed("L", list(0)), typed("U", pointer(0)),
		{Kind: api.KList, Type: "list", Ref: api.Ref{From: n, Len: n, Cap: n}}, pointer(0, n), {Kind: 77, N: n, F: uint64(n), Type: fmt.Sprint(n)},
		record(api.Datum{Kind: api.KList, Type: "list", Items: hidden}), record(record(api.Datum{Kind: 77, Items: hidden}), api.Datum{Items: hidden}),
		{Kind: api.KStruct, Type: "T", Items: hidden[:0]},
	}
	for kind := -1; kind <= api.KPointer+2; kind++ {
		if kind != api.KStruct {
			out = append(out, api.Datum{Kind: kind, Type: "T", Items: hidden})
		}
	}
	return out
}

// roomOf is a heap of five variables, of which 3 was forgotten; 2 leads to 4.
func roomOf(t *testing.T) *heap.Heap {
	t.Helper()
	h := heap.New()
	for n := range 5 {
		d := api.Datum{}
		if n == 1 {
			d = pointer(4)
		}
		_, err := h.Box(d)
		must(t, err)
	}
	h.Free(3)
	return h
}

func TestDataThatName(t *testing.T) {
	for _, d := range naming(2) {
		what := fmt.Sprintf("%+v", d)
		reached(t, what, roomOf(t), data(d), nil, 2, 4)
		reached(t, "among others "+what, roomOf(t), data(integer(1), d, api.Datum{}), nil, 2, 4)
		reached(t, "twice "+what, roomOf(t), data(d, d), numbers(2), 2, 4)
		reached(t, "in a struct "+what, roomOf(t), data(record(integer(1), d)), nil, 2, 4)
		reached(t, "in a struct, with another one "+what, roomOf(t), data(record(d, pointer(1))), nil, 1, 2, 4)
		for _, deep := range []int{2, 99, 100, 1000} {
			reached(t, fmt.Sprint("in structs, ", deep, " of them ", what), roomOf(t), data(within(deep, d)), nil, 2, 4)
		}
		is(t, "C3: "+what, collect.Way(roomOf(t), data(d), nil, 4), "[2 4]")
		is(t, "C3: in a struct "+what, collect.Way(roomOf(t), data(record(d)), nil, 4), "[2 4]")
	}
}

func TestDataThatNameNothing(t *testing.T) {
	for _, d := range silent(2) {
		what := fmt.Sprintf("%+v", d)
		reached(t, what, roomOf(t), data(d), nil)
		reached(t, "in structs "+what, roomOf(t), data(within(3, d)), nil)
		reached(t, "beside one that does "+what, roomOf(t), data(d, pointer(1), d), nil, 1)
	}
	reached(t, "all of them", roomOf(t), silent(2), nil)
}

// A datum that is no struct is looked at itself, but its Items are not; a struct's own Ref and its Items both are.
func TestRefAndItems(t *testing.T) {
	for kind := -1; kind <= api.KPointer+2; kind++ {
		d := api.Datum{Kind: kind, Type: "T", Ref: api.Ref{Object: 1}, Items: pointers(2, 5)}
		want := numbers(1)
		if kind == api.KStruct {
			want = numbers(1, 2, 4, 5)
		}
		reached(t, fmt.Sprint("of the kind ", kind), roomOf(t), data(d), nil, want...)
		reached(t, fmt.Sprint("in a struct, of the kind ", kind), roomOf(t), data(within(2, d)), nil, want...)
	}
}

// Numbers that are no things are passed over, wherever they stand.
func TestStrangers(t *testing.T) {
	h := roomOf(t)
	all := strangers(h, 3)
	for _, n := range all {
		what := fmt.Sprint("the number ", n)
		for _, d := range naming(n) {
			reached(t, what, roomOf(t), data(d), nil)
			reached(t, what+" beside a thing", roomOf(t), data(d, pointer(2)), numbers(n), 2, 4)
		}
		reached(t, what+" as a variable", roomOf(t), nil, numbers(n))
		reached(t, what+" as a variable, beside one", roomOf(t), nil, numbers(5, n, 1), 1, 5)
		is(t, "C3: from "+what, collect.Way(roomOf(t), data(pointer(n)), numbers(n), 2), "[]")
		is(t, "C3: to "+what, collect.Way(roomOf(t), data(pointer(n), pointer(2)), numbers(n), n), "[]")
	}
	reached(t, "all of them", h, pointers(all...), all)
	reached(t, "of an empty heap", heap.New(), pointers(all...), numbers(1, 2, 3))
	is(t, "C3: of an empty heap", collect.Way(heap.New(), pointers(1), numbers(1), 1), "[]")
}

// Each of boxes is a root, if it is a thing, also if that is no variable.
func TestBoxes(t *testing.T) {
	for _, n := range []int{1, 2, 3} {
		reached(t, fmt.Sprint("the box ", n), world(t), nil, numbers(n), 1, 2, 3)
	}
	reached(t, "the variable", world(t), nil, numbers(4), 4)
	reached(t, "the object", world(t), nil, numbers(5), 5)
	reached(t, "in no order, twice", world(t), nil, numbers(5, 4, 5, 9, 4), 4, 5)
	reached(t, "data and boxes", world(t), data(pointer(5)), numbers(4, 5), 4, 5)
	reached(t, "a root to which another one leads", world(t), data(list(1), mapping(3)), numbers(2, 1), 1, 2, 3)
}

func TestNoRoots(t *testing.T) {
	reached(t, "nothing", world(t), nil, nil)
	reached(t, "lists of nothing", world(t), data(), numbers())
	reached(t, "lists of nothing, with something behind them", world(t), pointers(1, 2)[:0], numbers(4, 5)[:0])
	reached(t, "lists with something behind them", world(t), pointers(5, 2)[:1], numbers(4, 1)[:1], 4, 5)
	d := record(pointers(5, 2)...)
	d.Items = d.Items[:1]
	reached(t, "a struct with something behind its Items", world(t), data(d), nil, 5)
	for range 2 {
		is(t, "C3: from nothing", collect.Way(world(t), nil, nil, 1), "[]")
	}
}

// However deep: as deep as anything that may be handed in.
func TestDeepItems(t *testing.T) {
	const deep = 1 << 16
	reached(t, "deep", roomOf(t), data(within(deep, pointer(2))), nil, 2, 4)
	d := pointer(2)
	for n := range deep { // on each level something
		d = record(integer(n), pointer(n%7), d)
	}
	reached(t, "on each level", roomOf(t), data(d), nil, 1, 2, 4, 5)
	d = api.Datum{Kind: api.KList, Type: "list", Ref: api.Ref{Object: 1}, Items: data(within(deep, pointer(2)))}
	reached(t, "deep, in a list", roomOf(t), data(d), nil, 1)
	reached(t, "deep, in a list in a struct", roomOf(t), data(within(deep, d)), nil, 1)
}

// Items that many structs have, or that stand within themselves, are still only so many.
func TestSharedItems(t *testing.T) {
	d := record(pointer(1), pointer(5))
	for range 60 {
		d = record(d, d, integer(1), d)
	}
	reached(t, "one in many", roomOf(t), data(d, d), nil, 1, 5)
	endless := record(integer(1), api.Datum{}, pointer(2))
	endless.Items[1] = endless
	reached(t, "one in itself", roomOf(t), data(endless), nil, 2, 4)
	a, b := record(pointer(1), api.Datum{}), record(api.Datum{}, pointer(5))
	a.Items[1], b.Items[0] = b, a
	reached(t, "two in one another", roomOf(t), data(integer(1), a), nil, 1, 5)
	reached(t, "two in one another, from the other one", roomOf(t), data(b), numbers(2), 1, 2, 4, 5)
	// The first of some Items, and all of them, are not the same.
	all := pointers(1, 5)
	reached(t, "a piece of Items, and all of them", roomOf(t), data(record(all[:1]...), record(all...)), nil, 1, 5)
	reached(t, "all Items, and a piece of them", roomOf(t), data(record(all...), record(all[1:]...)), nil, 1, 5)
	row := data(integer(1), integer(2), integer(3), pointer(2))
	for i := range 3 {
		row[i] = record(row[i+1:]...)
	}
	reached(t, "pieces within one another", roomOf(t), data(row[0]), nil, 2, 4)
	own := data(pointer(1), record())
	own[1].Items = own
	reached(t, "a list of data in itself", roomOf(t), own, nil, 1)
}
