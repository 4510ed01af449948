package collect_test

import (
	"testing"

	"guise/api"
	"guise/collect"
)

func TestExamples(t *testing.T) {
	h := world(t)
	whole := piece(1, 0, 2, 2)
	is(t, "Reached(the list 1)", collect.Reached(h, data(whole), nil), "[1 2 3]")
	is(t, "Reached(the int 5)", collect.Reached(h, data(integer(5)), nil), "[]")
	is(t, "Reached(nothing; boxes 4, 9)", collect.Reached(h, nil, numbers(4, 9)), "[4]")
	is(t, "Reached(a struct with the map 3 in a field)", collect.Reached(h, data(record(mapping(3))), nil), "[1 2 3]")
	is(t, "Way(the map 3, the pointer to 5; to 2)", collect.Way(h, data(mapping(3), typed("F", pointer(5))), nil, 2), "[3 1 2]")
	is(t, "Way(the list 1; to 4)", collect.Way(h, data(whole), nil, 4), "[]")
	is(t, "Sweep(the list 1)", collect.Sweep(h, data(whole), nil), 2)
	is(t, "Sweep again", collect.Sweep(h, data(whole), nil), 0)
	is(t, "Things", h.Things(), "[1 2 3]")
}

// The calls go on with what is left, and with what is made behind a Sweep.
func TestExamplesGoOn(t *testing.T) {
	h := world(t)
	collect.Sweep(h, data(list(1)), nil)
	is(t, "C1: of what was forgotten", collect.Reached(h, data(pointer(5)), numbers(4)), "[]")
	n, err := h.Box(list(1))
	must(t, err)
	is(t, "the next number", n, 6)
	is(t, "C1: of a new thing", collect.Reached(h, nil, numbers(n)), "[1 2 3 6]")
	is(t, "C3: from a new thing", collect.Way(h, nil, numbers(n), 3), "[6 1 2 3]")
	must(t, h.Write(pointer(2), record(api.Datum{})))
	is(t, "C1: where nothing leads to 3 any more", collect.Reached(h, nil, numbers(n)), "[1 2 6]")
	is(t, "C2: then", collect.Sweep(h, nil, numbers(n)), 1)
	if !h.Set(n, integer(1)) {
		t.Error("Set")
	}
	is(t, "C2: where nothing leads to 1 any more", collect.Sweep(h, nil, numbers(n)), 2)
	is(t, "C2: all", collect.Sweep(h, data(pointer(n+1)), numbers(0)), 1)
	is(t, "C2: none is left", collect.Sweep(h, nil, nil), 0)
	is(t, "Things", h.Things(), "[]")
}
