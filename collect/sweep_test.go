package collect_test

import (
	"fmt"
	"testing"

	"guise/api"
	"guise/collect"
	"guise/heap"
	"guise/parse"
	"guise/types"
)

func TestSweepOfAllAndNone(t *testing.T) {
	h := world(t)
	all := dump(t, h, h.Things())
	is(t, "C2: none", collect.Sweep(h, pointers(1, 5), numbers(4)), 0)
	is(t, "C2: none: what is left", dump(t, h, h.Things()), all)
	is(t, "C2: all", collect.Sweep(h, nil, nil), 5)
	is(t, "C2: all: what is left", h.Things(), "[]")
	is(t, "C2: of an empty heap", collect.Sweep(h, pointers(1, 2, 3), numbers(4)), 0)
	is(t, "C2: of a new heap", collect.Sweep(heap.New(), pointers(1), nil), 0)
	n, err := h.Box(api.Datum{})
	must(t, err)
	is(t, "P10.1: no number is given twice", n, 6)
}

// What was forgotten is: none of the heap's calls finds it; what is left says of all the same as before.
func TestSweptThingsAreForgotten(t *testing.T) {
	n, err := parse.Program("type T struct { a }\ntype F struct { }\nfunc main() { }")
	must(t, err)
	table, err := types.Make(n)
	must(t, err)
	h := world(t)
	whole := piece(1, 0, 2, 2)
	shown := h.Show(table, whole)
	is(t, "C2", collect.Sweep(h, data(whole), nil), 2)
	is(t, "P10.9: what is left is shown", h.Show(table, whole), shown)
	is(t, "P10.9: what went is shown", h.Show(table, typed("F", pointer(5))), "?")
	if _, open := h.Open(4); open || h.Set(4, api.Datum{}) || h.Free(4) || h.Free(5) {
		t.Error("C2: 4 or 5 is still there")
	}
	if _, err := h.Read(typed("F", pointer(5))); err == nil {
		t.Error("C2: 5 is still read")
	}
	for _, l := range h.Things() {
		for _, to := range h.Leads(l) {
			if to > 3 {
				t.Errorf("C2: %d leads to %d, which went", l, to)
			}
		}
	}
	// Those that stay can be written, and grow, as before.
	must(t, h.Put(whole, 1, integer(6)))
	longer, err := h.Append(whole, mapping(3))
	must(t, err)
	is(t, "Append", fmt.Sprint(longer.Ref.Object, longer.Ref.Len, longer.Ref.Cap), "6 3 4")
	must(t, h.Lay(mapping(3), integer(2), longer))
	is(t, "C3", collect.Way(h, data(whole), nil, 6), "[1 2 3 6]")
	is(t, "C2: the new array is come to", collect.Sweep(h, data(whole), nil), 0)
	must(t, h.Drop(mapping(3), integer(2)))
	is(t, "C2: the new array is come to no more", collect.Sweep(h, data(whole), nil), 1)
}

// A thing that is left by what is no thing of its own stays as it is: it goes on leading to numbers of none.
func TestLeftAsTheyAre(t *testing.T) {
	h := made(t, numbers(2, 3, 99), numbers(1), nil)
	h.Free(3)
	is(t, "C2", collect.Sweep(h, pointers(2), nil), 0)
	is(t, "C2: Leads", h.Leads(1), "[2 3 99]")
	is(t, "C2", collect.Sweep(h, pointers(3, 99), nil), 2)
}

// Heaps know nothing of one another.
func TestTwoHeaps(t *testing.T) {
	a, b := world(t), world(t)
	is(t, "C2: of one", collect.Sweep(a, pointers(5), nil), 4)
	is(t, "the other one", b.Things(), "[1 2 3 4 5]")
	is(t, "C1: of the one", collect.Reached(a, pointers(1, 5), nil), "[5]")
	is(t, "C1: of the other one", collect.Reached(b, pointers(1, 5), nil), "[1 2 3 5]")
	is(t, "C2: of the other one", collect.Sweep(b, pointers(1), nil), 2)
	is(t, "the one", a.Things(), "[5]")
}
