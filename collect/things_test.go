package collect_test

import (
	"fmt"
	"testing"

	"guise/api"
	"guise/collect"
	"guise/heap"
)

// Each kind of thing leads to what it holds, of each kind of datum, itself and in structs; and to nothing else.
func TestEachKindLeads(t *testing.T) {
	leading := func(n int) []api.Datum {
		return []api.Datum{pointer(n), pointer(n, 0, 1), list(n), piece(n, 3, 1, 2), mapping(n), function(n), record(pointer(n)), within(4, mapping(n)), record(pointer(0), record(integer(n), typed("L", list(n))))}
	}
	for name, make := range makers() {
		for _, d := range leading(2) {
			if keyed := name == "keys" || name == "keys within"; keyed && !isKey(d) {
				continue
			}
			h := heap.New()
			what := fmt.Sprintf("%s with %+v", name, d)
			for range 3 { // 1, 2, 3: 2 leads to 3
				_, err := h.Box(pointer(3))
				must(t, err)
			}
			h.Set(3, api.Datum{})
			n, err := make(h, data(integer(1), d, pointer(0)))
			must(t, err)
			is(t, "C3: "+what, collect.Way(h, nil, numbers(n), 3), fmt.Sprint(numbers(n, 2, 3)))
			reached(t, what, h, pointers(n), nil, 2, 3, n)
		}
		h := heap.New()
		n, err := make(h, nil)
		must(t, err)
		_, err = h.Box(api.Datum{})
		must(t, err)
		reached(t, name+" without anything", h, pointers(n), nil, n)
	}
}

func isKey(d api.Datum) bool {
	h := heap.New()
	return h.Lay(h.Map(), d, api.Datum{}) == nil
}

// A function leads to its variables, and to what it is bound to, and on from there.
func TestFunctions(t *testing.T) {
	h := heap.New()
	for _, d := range data(pointer(3), integer(3), api.Datum{}, function(6), api.Datum{}) { // 1 to 5
		_, err := h.Box(d)
		must(t, err)
	}
	f, err := h.Func(4, numbers(2, 1), data(record(integer(4)), mapping(99)))
	must(t, err)
	is(t, "C3", collect.Way(h, data(f), nil, 3), "[6 1 3]")
	is(t, "C3", collect.Way(h, nil, numbers(4), 2), "[4 6 2]")
	reached(t, "a function", h, data(f), nil, 1, 2, 3, 6)
}

// An array keeps all its elements, also those that no list reaches; a pointer to a part all of its object.
func TestPieces(t *testing.T) {
	h := heap.New()
	for range 3 {
		_, err := h.Box(api.Datum{})
		must(t, err)
	}
	l, err := h.List(pointers(1, 2, 3))
	must(t, err)
	for _, bounds := range [][3]int{{0, 1, 1}, {1, 2, 2}, {2, 2, 3}, {3, 3, 3}, {0, 0, 0}} {
		p, err := h.Slice(l, bounds[0], bounds[1], bounds[2])
		must(t, err)
		reached(t, fmt.Sprint("the piece ", bounds), h, data(p), nil, 1, 2, 3, 4)
	}
	must(t, h.Put(l, 1, api.Datum{}))
	reached(t, "where an element went", h, data(l), nil, 1, 3, 4)

	h = heap.New()
	for range 2 {
		_, err := h.Box(api.Datum{})
		must(t, err)
	}
	o, err := h.Object(record(pointer(1), typed("U", record(pointer(2)))))
	must(t, err)
	p, err := h.Part(o, 1, "U")
	must(t, err)
	is(t, "C3", collect.Way(h, data(p), nil, 1), "[3 1]")
	reached(t, "a pointer to a part", h, data(p), nil, 1, 2, 3)
	must(t, h.Write(p, typed("U", record())))
	reached(t, "where a part went", h, data(p), nil, 1, 3)
}

// A map leads by the keys and the values that it has, not by those that it had.
func TestMaps(t *testing.T) {
	h := heap.New()
	for range 5 {
		_, err := h.Box(api.Datum{})
		must(t, err)
	}
	m := h.Map()
	nan := api.Datum{Kind: api.KFloat, Type: "float", F: 0x7FF8000000000001}
	must(t, h.Lay(m, pointer(1), mapping(2)))
	must(t, h.Lay(m, nan, list(3)))
	must(t, h.Lay(m, record(nan, list(4)), list(5)))
	reached(t, "a map", h, data(m), nil, 1, 2, 3, 4, 5, 6)
	must(t, h.Lay(m, pointer(1), api.Datum{}))
	reached(t, "a map whose value is another one", h, data(m), nil, 1, 3, 4, 5, 6)
	must(t, h.Drop(m, pointer(1)))
	reached(t, "a map whose entry went", h, data(m), nil, 3, 4, 5, 6)
}

// Rings end, and so does what leads to itself.
func TestRings(t *testing.T) {
	for name, make := range makers() {
		h := heap.New()
		n, err := make(h, pointers(1))
		must(t, err)
		is(t, "C3: to itself: "+name, collect.Way(h, pointers(n), nil, n), "[1]")
		reached(t, "one that leads to itself: "+name, h, pointers(n), nil, 1)
		reached(t, "one that leads to itself, and is no root: "+name, h, nil, nil)
		for other, next := range makers() {
			h = heap.New()
			_, err = make(h, pointers(2))
			must(t, err)
			_, err = next(h, pointers(3, 2))
			must(t, err)
			_, err = make(h, pointers(1, 3))
			must(t, err)
			_, err = next(h, pointers(5, 4, 1))
			must(t, err)
			_, err = make(h, pointers(4))
			must(t, err)
			what := name + " and " + other
			is(t, "C3: a ring: "+what, collect.Way(h, pointers(2), nil, 1), "[2 3 1]")
			reached(t, "two rings: "+what, h, pointers(2), nil, 1, 2, 3)
			reached(t, "a ring that nobody comes to: "+what, h, nil, nil)
		}
	}
	h := made(t, numbers(1, 2, 3, 4), numbers(1, 2, 3, 4), numbers(1, 2, 3, 4), numbers(1, 2, 3, 4))
	reached(t, "each leads to each", h, pointers(3), nil, 1, 2, 3, 4)
}

// What was forgotten is led to, but not come to; nor what lies behind it, nor what is to come.
func TestForgottenOnTheWay(t *testing.T) {
	h := made(t, numbers(2), numbers(3), numbers(4), nil)
	h.Free(2)
	is(t, "C3: through what was forgotten", collect.Way(h, pointers(1), nil, 3), "[]")
	is(t, "C3: to what was forgotten", collect.Way(h, pointers(1), nil, 2), "[]")
	is(t, "C3: from what was forgotten", collect.Way(h, pointers(2), numbers(2), 3), "[]")
	reached(t, "through what was forgotten", h, pointers(1, 2), numbers(2), 1)
	h = made(t, numbers(2, 3, 77, api.MaxObjects))
	is(t, "C3: to what is to come", collect.Way(h, pointers(1), nil, 2), "[]")
	is(t, "C1: what is to come", collect.Reached(h, pointers(1, 3), numbers(2)), "[1]")
	_, err := h.List(pointers(1))
	must(t, err)
	is(t, "C3: to what has come", collect.Way(h, pointers(1), nil, 2), "[1 2]")
	reached(t, "what has come", h, pointers(1, 3), nil, 1, 2)
}

// chain is a heap of so many things of all kinds, of which each leads to the one made ahead of it.
func chain(t testing.TB, length int) *heap.Heap {
	t.Helper()
	h := heap.New()
	all := makers()
	names := []string{"list", "object", "keys", "variable", "values", "bound"}
	for n := range length {
		_, err := all[names[n%len(names)]](h, pointers(n))
		must(t, err)
	}
	return h
}

func TestLongRows(t *testing.T) {
	const length = 100000
	h := chain(t, length)
	all := h.Things()
	way := collect.Way(h, pointers(length), nil, 1)
	if len(way) != length || way[0] != length || way[length-1] != 1 {
		t.Fatalf("C3: a row of %d", len(way))
	}
	is(t, "C3: a long row, with a root nearer", collect.Way(h, pointers(length, 3), nil, 1), "[3 2 1]")
	is(t, "C1: how many", len(collect.Reached(h, pointers(length), nil)), length)
	is(t, "C1: from the middle", len(collect.Reached(h, pointers(length/2), nil)), length/2)
	is(t, "C2", collect.Sweep(h, pointers(length), nil), 0)
	is(t, "C2: the half", collect.Sweep(h, nil, numbers(length/2)), length/2)
	is(t, "C2: what is left", len(h.Things()), length/2)
	is(t, "C2: the other half", collect.Sweep(h, pointers(all[length/2:]...), all[length/2:]), length/2)
}

// One that leads to many, and many roots.
func TestWideOnes(t *testing.T) {
	const width = 100000
	h := heap.New()
	for range width {
		_, err := h.Box(list(width + 1))
		must(t, err)
	}
	all := h.Things()
	_, err := h.List(pointers(all...))
	must(t, err)
	is(t, "C1: from one", len(collect.Reached(h, nil, numbers(77))), width+1)
	is(t, "C1: from all", len(collect.Reached(h, pointers(all...), all)), width+1)
	is(t, "C3: from one", collect.Way(h, nil, numbers(77), width), fmt.Sprint(numbers(77, width+1, width)))
	is(t, "C3: from all", collect.Way(h, pointers(all...), all, width+1), fmt.Sprint(numbers(1, width+1)))
	is(t, "C2", collect.Sweep(h, nil, numbers(width)), 0)
	is(t, "C2: all", collect.Sweep(h, nil, nil), width+1)
}
