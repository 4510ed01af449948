package heap_test

import (
	"fmt"
	"math"
	"slices"
	"testing"

	"guise/api"
	"guise/heap"
	"guise/value"
)

// makers make a thing each, and tell its number.
func makers() map[string]func(t *testing.T, h store) int {
	led := func(t *testing.T, d api.Datum, err error) int {
		t.Helper()
		must(t, err)
		return d.Ref.Object
	}
	return map[string]func(t *testing.T, h store) int{
		"Object": func(t *testing.T, h store) int { d, err := h.Object(record(none)); return led(t, d, err) },
		"List":   func(t *testing.T, h store) int { d, err := h.List(integers(1, 2)); return led(t, d, err) },
		"no List": func(t *testing.T, h store) int {
			d, err := h.List(nil)
			return led(t, d, err)
		},
		"Map":    func(t *testing.T, h store) int { return led(t, h.Map(), nil) },
		"Box":    func(t *testing.T, h store) int { n, err := h.Box(none); must(t, err); return n },
		"Func":   func(t *testing.T, h store) int { d, err := h.Func(0, nil, nil); return led(t, d, err) },
		"Append": func(t *testing.T, h store) int { d, err := h.Append(list(0, 0), none); return led(t, d, err) },
	}
}

// Each thing has the next number, whatever kind it is of, and whatever was refused, or forgotten, ahead of it.
func TestNumbers(t *testing.T) {
	all := makers()
	var names []string
	for name := range all {
		names = append(names, name)
	}
	slices.Sort(names)
	for seed := range uint64(20) {
		r, h := dice(seed), heap.New()
		if n := h.Things(); len(n) != 0 {
			t.Fatalf("P10.1: New has the things %v", n)
		}
		last := 0
		var there []int
		for range 100 {
			switch r.IntN(6) {
			case 0:
				h.Object(integer(1))
				h.List([]api.Datum{boolean(2)})
				h.Box(boolean(2))
				h.Func(-1, nil, nil)
				h.Append(list(0, 0), boolean(2))
				h.Append(list(0, 0))
				h.Slice(list(0, 0), 0, 0, -1)
			case 1:
				if len(there) > 0 {
					at := len(there) - 1 // the last one, too, is not given again
					if r.IntN(2) == 0 {
						at = r.IntN(len(there))
					}
					if !h.Free(there[at]) {
						t.Fatalf("P10.10: Free(%d) of %v", there[at], there)
					}
					there = slices.Delete(there, at, at+1)
				}
			default:
				name := oneOf(r, names...)
				last++
				if n := all[name](t, h); n != last {
					t.Fatalf("P10.1: %s has the number %d, must be %d", name, n, last)
				}
				there = append(there, last)
			}
			if got := h.Things(); !slices.Equal(got, there) {
				t.Fatalf("P10.10: Things: %v, must be %v", got, there)
			}
		}
	}
}

// All forgotten: numbers go on.
func TestNumbersBehindAll(t *testing.T) {
	h := heap.New()
	for range 5 {
		h.Map()
	}
	for n := range 7 {
		if h.Free(n) != (n > 0 && n < 6) {
			t.Errorf("P10.10: Free(%d)", n)
		}
	}
	if len(h.Things()) != 0 || h.Map().Ref.Object != 6 {
		t.Errorf("P10.1: a number was given again")
	}
}

func TestObject(t *testing.T) {
	for i, d := range []api.Datum{record(), record(none), record(integer(1), text("a"), nan), typed("U", record(list(5, 2), pointer(9, 1), mapping(7))), record(typed("V", record(function(77)))), times(30, none), within(99, none), sized(100), typed("fault", record(text("nil"), text("map"))), typed("abcdefghijabcdefghijabcdefghijabcdefghij", record())} {
		h := heap.New()
		for range i {
			h.Map()
		}
		p, err := h.Object(d)
		if err != nil || !value.Same(p, typed(d.Type, pointer(i+1))) {
			t.Errorf("P10.1: Object(%s): %s, %v", short(d), short(p), err)
		}
		if got, err := h.Read(p); err != nil || !value.Same(got, d) {
			t.Errorf("P10.1: Object(%s) holds %s, %v", short(d), short(got), err)
		}
	}
	h := newZoo(t)
	was := dump(t, h)
	refused := slices.Concat(wrong(), leadless()[:7], nils())
	for kind := api.KList; kind <= api.KPointer; kind++ {
		refused = append(refused, fitting(kind)...)
	}
	for _, d := range refused {
		p, err := h.Object(d)
		is(t, "P10.1: Object of "+short(d), says(t, p, err), "wrong")
	}
	is(t, "P10.1: behind refused objects", dump(t, h), was)
	if n, _ := h.Box(none); n != zooNext {
		t.Errorf("P10.1: what was refused took a number: %d", n)
	}
}

func TestList(t *testing.T) {
	all := slices.Concat(leadless(), nils(), []api.Datum{list(77, 3), pointer(78, 1, 2), mapping(79), function(80)})
	for n := range len(all) + 1 {
		h := heap.New()
		l, err := h.List(all[:n])
		is(t, "P10.1: List", says(t, l, err), fmt.Sprintf("list@1[0:%d:%d]", n, n))
		for i, d := range all[:n] {
			if got, err := h.At(l, i); err != nil || !value.Same(got, d) {
				t.Errorf("P10.1: element %d of a List is %s, %v, must be %s", i, short(got), err, short(d))
			}
		}
	}
	h := newZoo(t)
	was := dump(t, h)
	for _, d := range wrong() {
		for _, l := range [][]api.Datum{{d}, {d, none}, {none, d}, {none, d, none}, {d, d}} {
			got, err := h.List(l)
			is(t, "P10.1: List of "+shorts(l), says(t, got, err), "wrong")
		}
	}
	is(t, "P10.1: behind refused lists", dump(t, h), was)
}

// Lists of none, nil or empty, lead to an array; each one to its own.
func TestListOfNone(t *testing.T) {
	h := heap.New()
	a, err := h.List(nil)
	is(t, "P10.1: List of nil", says(t, a, err), "list@1[0:0:0]")
	b, err := h.List([]api.Datum{})
	is(t, "P10.1: List of none", says(t, b, err), "list@2[0:0:0]")
	is(t, "P10.9: Show", h.Show(table(t, declared), a)+h.Show(table(t, declared), list(0, 0)), "[]nil(list)")
	if !h.Free(1) {
		t.Error("P10.1: the list of none leads to no array")
	}
	_, err = h.At(a, 0)
	is(t, "P10.10: At of what was forgotten", fault(t, err), "wrong")
	_, err = h.At(b, 0)
	is(t, "P10.4: At of none", fault(t, err), "range index 0 of 0")
}

// As many elements as there may be, and one more.
func TestListOfMaxRoom(t *testing.T) {
	h := heap.New()
	all := make([]api.Datum, api.MaxRoom+1)
	all[0], all[api.MaxRoom-1], all[api.MaxRoom] = integer(1), integer(2), integer(3)
	l, err := h.List(all)
	is(t, "P10.1: List of one too many", says(t, l, err), "wrong")
	l, err = h.List(all[:api.MaxRoom])
	is(t, "P10.1: List of MaxRoom", says(t, l, err), "list@1[0:1048576:1048576]")
	for i, want := range map[int]string{0: "1", 1: "nil", api.MaxRoom - 1: "2", api.MaxRoom: "range index 1048576 of 1048576"} {
		d, err := h.At(l, i)
		is(t, "P10.4: At", says(t, d, err), want)
	}
	all[api.MaxRoom] = boolean(2)
	l, err = h.List(all)
	is(t, "P10.1: one too many, that is not right", says(t, l, err), "wrong")
	if n, _ := h.Box(none); n != 2 {
		t.Errorf("P10.1: what was refused took a number: %d", n)
	}
}

func TestMapAndBox(t *testing.T) {
	h := heap.New()
	m := h.Map()
	if !value.Same(m, mapping(1)) || h.Size(m) != 0 || entries(h, m) != "" {
		t.Errorf("P10.1: Map: %s, with %d: %s", short(m), h.Size(m), entries(h, m))
	}
	other := h.Map()
	must(t, h.Lay(m, integer(1), none))
	if !value.Same(other, mapping(2)) || h.Size(other) != 0 || h.Size(m) != 1 {
		t.Errorf("P10.1: two maps are one: %s", short(other))
	}
	for _, d := range slices.Concat(leadless(), nils(), []api.Datum{list(77, 3), pointer(78, 1, 2), mapping(1), function(1), within(99, none)}) {
		n, err := h.Box(d)
		got, open := h.Open(n)
		if err != nil || !open || !value.Same(got, d) {
			t.Errorf("P10.1: Box(%s): %d, %v; it holds %s, %v", short(d), n, err, short(got), open)
		}
	}
	was := dump(t, h)
	for _, d := range wrong() {
		if n, err := h.Box(d); n != 0 || fault(t, err) != "wrong" {
			t.Errorf("P10.1: Box(%s): %d, %v", short(d), n, err)
		}
	}
	is(t, "P10.1: behind refused variables", dump(t, h), was)
}

func TestFunc(t *testing.T) {
	h := newZoo(t)
	other, err := h.Box(none)
	must(t, err)
	next := other
	for _, c := range []struct {
		code  int
		boxes []int
		bound []api.Datum
		want  string
	}{
		{0, nil, nil, "0 [] [] true"},
		{1, []int{}, []api.Datum{}, "1 [] [] true"},
		{math.MaxInt, []int{4}, nil, "9223372036854775807 [4] [] true"},
		{7, []int{9, 4, 9, 9}, integers(1, 2), "7 [9 4 9 9] [1 2] true"},
		{7, nil, []api.Datum{none, record(list(77, 1)), list(77, 6), function(0), pointer(7)}, "7 [] [nil T{list@77[0:1:1]} list@77[0:6:6] func@0 *T@7] true"},
	} {
		f, err := h.Func(c.code, c.boxes, c.bound)
		next++
		is(t, "P10.1: Func", says(t, f, err), fmt.Sprintf("func@%d", next))
		is(t, "P10.8: Called", called(h, f), c.want)
	}
	was := dump(t, h)
	for _, n := range []int{0, -1, 1, 2, 3, 5, 6, 7, 8, next + 1, 77, api.MaxObjects, math.MinInt, math.MaxInt} {
		for _, boxes := range [][]int{{n}, {4, n}, {n, 4}, {4, n, other}} {
			f, err := h.Func(1, boxes, nil)
			is(t, fmt.Sprint("P10.1: Func of the variables ", boxes), says(t, f, err), "wrong")
		}
	}
	for _, d := range wrong() {
		for _, bound := range [][]api.Datum{{d}, {none, d}, {d, none}} {
			f, err := h.Func(1, []int{4}, bound)
			is(t, "P10.1: Func bound to "+shorts(bound), says(t, f, err), "wrong")
		}
	}
	for _, code := range []int{-1, math.MinInt} {
		f, err := h.Func(code, []int{4}, integers(1))
		is(t, "P10.1: Func of a code below 0", says(t, f, err), "wrong")
	}
	is(t, "P10.1: behind refused functions", dump(t, h), was)
}
