package heap_test

import (
	"fmt"
	"strings"
	"testing"

	"guise/api"
	"guise/heap"
	"guise/value"
)

// The chapter's examples, row by row, on one heap where a row goes on from the one ahead.
func TestExamples(t *testing.T) {
	h, known := heap.New(), table(t, declared)
	p, err := h.Object(record(integer(1), integer(2)))
	is(t, "Object", says(t, p, err), "*T@1")
	n, err := h.Box(integer(5))
	is(t, "Box", fmt.Sprint(n, fault(t, err)), "2")
	l, err := h.List(integers(1, 2, 3))
	is(t, "List", says(t, l, err), "list@3[0:3:3]")

	d, err := h.Read(p)
	is(t, "Read", says(t, d, err), "T{1 2}")
	is(t, "Write(it, i(5))", fault(t, h.Write(p, integer(5))), "conversion int is not T")
	is(t, "Write(it, nil)", fault(t, h.Write(p, none)), "conversion nil is not T")
	d, err = h.Read(pointer(0))
	is(t, "Read of none", says(t, d, err), "nil pointer")

	for _, c := range []struct {
		i    int
		want string
	}{{3, "range index 3 of 3"}, {-1, "range index -1 of 3"}} {
		d, err = h.At(l, c.i)
		is(t, "At", says(t, d, err), c.want)
	}
	for _, c := range []struct {
		from, to, most int
		want           string
	}{{1, 2, -1, "list@3[1:2:3]"}, {2, 1, -1, "range slice 2 1 of 3"}, {0, 1, 4, "range slice 0 1 4 of 3"}} {
		d, err = h.Slice(l, c.from, c.to, c.most)
		is(t, "Slice", says(t, d, err), c.want)
	}

	q, err := h.Slice(l, 0, 1, -1)
	must(t, err)
	d, err = h.Append(q, integer(9))
	is(t, "Append with room", says(t, d, err), "list@3[0:2:3]")
	d, err = h.At(l, 1)
	is(t, "At 1 behind it", says(t, d, err), "9")
	d, err = h.Append(l, integer(7))
	is(t, "Append without room", says(t, d, err), "list@4[0:4:6]")

	nilList := list(0, 0)
	d, err = h.At(nilList, 0)
	is(t, "At of the nil list", says(t, d, err), "range index 0 of 0")
	d, err = h.Slice(nilList, 0, 0, -1)
	is(t, "Slice of the nil list", says(t, d, err), "list@0[0:0:0]")
	d, err = h.Append(nilList, integer(1))
	is(t, "Append to the nil list", says(t, d, err), "list@5[0:1:1]")

	must(t, h.Put(l, 1, integer(2)))
	q, err = h.Slice(l, 1, 3, -1)
	must(t, err)
	n, err = h.Copy(q, l)
	is(t, "Copy", fmt.Sprint(n, fault(t, err), elements(t, h, l)), "21 1 2")

	m := h.Map()
	must(t, h.Lay(m, integer(1), m))
	is(t, "Leads", fmt.Sprint(h.Leads(m.Ref.Object), m.Ref.Object), "[6] 6")
	is(t, "Show of a map in itself", h.Show(known, m), strings.Repeat("map{1: ", 8)+".."+strings.Repeat("}", 8))
	is(t, "Lay into the nil map", fault(t, h.Lay(mapping(0), integer(1), integer(1))), "nil map")
	is(t, "Lay under a list", fault(t, h.Lay(m, l, integer(1))), "key list")
	d, found, err := h.Get(mapping(0), l)
	is(t, "Get of the nil map", fmt.Sprint(says(t, d, err), found), "key listfalse")

	o, err := h.Object(record(integer(1), none))
	must(t, err)
	for _, c := range []struct {
		d    api.Datum
		want string
	}{{record(integer(1), none), "T{a: 1, b: nil}"}, {o, "&T{a: 1, b: nil}"}, {pointer(0), "nil(*T)"}, {typed("L", nilList), "nil(L)"}} {
		is(t, "Show", h.Show(known, c.d), c.want)
	}

	is(t, "Free(1)", fmt.Sprint(h.Free(1)), "true")
	d, err = h.Read(p)
	is(t, "Read of what was forgotten", says(t, d, err), "wrong")
	is(t, "Things", fmt.Sprint(h.Things()), "[2 3 4 5 6 7]")
	if d, open := h.Open(2); !open || !value.Same(d, integer(5)) {
		t.Errorf("Open(2): %s, %v", short(d), open)
	}
}
