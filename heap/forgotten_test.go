package heap_test

import (
	"fmt"
	"math"
	"slices"
	"testing"

	"guise/api"
	"guise/heap"
)

// Leads tells all numbers in what a thing holds, within structs too, rising, each once, whether there are such things or not.
func TestLeads(t *testing.T) {
	nested := record(list(30, 1), integer(40), typed("U", record(pointer(20, 1, 2), record(function(9), mapping(30)))), pointer(0), mapping(0))
	for _, c := range []struct {
		name string
		make func(h store) (int, error)
		want string
	}{
		{"an object of nothing", func(h store) (int, error) { d, err := h.Object(record()); return d.Ref.Object, err }, "[]"},
		{"an object", func(h store) (int, error) { d, err := h.Object(nested); return d.Ref.Object, err }, "[9 20 30]"},
		{"an object of itself", func(h store) (int, error) { d, err := h.Object(record(pointer(3))); return d.Ref.Object, err }, "[3]"},
		{"an array of none", func(h store) (int, error) { d, err := h.List(nil); return d.Ref.Object, err }, "[]"},
		{"an array of nothing", func(h store) (int, error) {
			d, err := h.List(slices.Concat(leadless(), nils()))
			return d.Ref.Object, err
		}, "[]"},
		{"an array", func(h store) (int, error) {
			d, err := h.List([]api.Datum{list(api.MaxObjects, 0), none, nested, list(2, 1), list(2, 0), function(1)})
			return d.Ref.Object, err
		}, "[1 2 9 20 30 2147483647]"},
		{"an array behind its list", func(h store) (int, error) {
			d, err := h.List([]api.Datum{none, nested, pointer(50)})
			if err == nil {
				d, err = h.Slice(d, 0, 1, 1)
			}
			return d.Ref.Object, err
		}, "[9 20 30 50]"},
		{"a map of none", func(h store) (int, error) { return h.Map().Ref.Object, nil }, "[]"},
		{"a map", func(h store) (int, error) {
			m := h.Map()
			for i, d := range []api.Datum{pointer(8), record(pointer(7), integer(1)), record(nan, list(60, 1)), none, integer(5), nan, pointer(0)} {
				if err := h.Lay(m, d, []api.Datum{none, mapping(8), nested, m}[i%4]); err != nil {
					return 0, err
				}
			}
			return m.Ref.Object, h.Lay(m, nan, function(4))
		}, "[3 4 7 8 9 20 30 60]"},
		{"a map whose entries went", func(h store) (int, error) {
			m := h.Map()
			h.Lay(m, pointer(8), nested)
			h.Lay(m, pointer(9), list(1, 1))
			h.Lay(m, pointer(9), list(2, 1))
			return m.Ref.Object, h.Drop(m, pointer(8))
		}, "[2 9]"},
		{"a variable of nil", func(h store) (int, error) { return h.Box(none) }, "[]"},
		{"a variable", func(h store) (int, error) { return h.Box(nested) }, "[9 20 30]"},
		{"a variable of itself", func(h store) (int, error) { return h.Box(list(3, 1)) }, "[3]"},
		{"a function of nothing", func(h store) (int, error) { d, err := h.Func(9, nil, nil); return d.Ref.Object, err }, "[]"},
		{"a function", func(h store) (int, error) {
			d, err := h.Func(77, []int{2, 1, 2}, []api.Datum{nested, none, pointer(2), mapping(1)})
			return d.Ref.Object, err
		}, "[1 2 9 20 30]"},
		{"a function of variables", func(h store) (int, error) { d, err := h.Func(77, []int{2}, nil); return d.Ref.Object, err }, "[2]"},
	} {
		h := heap.New()
		for range 2 {
			_, err := h.Box(none)
			must(t, err)
		}
		n, err := c.make(h)
		must(t, err)
		is(t, "P10.10: Leads of "+c.name, fmt.Sprint(h.Leads(n)), c.want)
		h.Free(1)
		h.Free(2)
		is(t, "P10.10: Leads of "+c.name+", behind Free", fmt.Sprint(h.Leads(n)), c.want)
		h.Free(n)
		is(t, "P10.10: Leads of "+c.name+" that was forgotten", fmt.Sprint(h.Leads(n)), "[]")
	}
}

func TestLeadsOfNone(t *testing.T) {
	h := newZoo(t)
	for _, n := range []int{0, -1, zooGone, zooNext, math.MaxInt, math.MinInt, api.MaxObjects} {
		if got := h.Leads(n); len(got) != 0 {
			t.Errorf("P10.10: Leads(%d): %v", n, got)
		}
	}
	is(t, "P10.10: Leads of the zoo", fmt.Sprint(h.Leads(1), h.Leads(2), h.Leads(3), h.Leads(4), h.Leads(5)), "[] [] [2] [] [3 4]")
}

// Leads follows what is written.
func TestLeadsBehindWrites(t *testing.T) {
	h := newZoo(t)
	want := func(n int, want string) {
		t.Helper()
		is(t, fmt.Sprintf("P10.10: Leads(%d)", n), fmt.Sprint(h.Leads(n)), want)
	}
	must(t, h.Write(typed("V", pointer(zooObject, 1, 1)), typed("V", record(list(9, 1)))))
	want(zooObject, "[9]")
	must(t, h.Write(pointer(zooObject), record(mapping(5))))
	want(zooObject, "[5]")
	must(t, h.Put(list(zooArray, 5), 4, list(zooArray, 5)))
	want(zooArray, "[2]")
	_, err := h.Append(piece(zooArray, 0, 0, 5), pointer(8), pointer(7))
	must(t, err)
	want(zooArray, "[2 7 8]")
	_, err = h.Copy(piece(zooArray, 3, 2, 2), piece(zooArray, 0, 1, 1))
	must(t, err)
	want(zooArray, "[2 7 8]")
	_, err = h.Copy(piece(zooArray, 3, 2, 2), piece(zooArray, 0, 2, 2))
	must(t, err)
	want(zooArray, "[7 8]")
	l, err := h.Append(list(zooArray, 5), mapping(3))
	must(t, err)
	want(l.Ref.Object, "[3 7 8]")
	must(t, h.Lay(mapping(zooMap), none, none))
	want(zooMap, "[]")
	if !h.Set(zooVariable, record(function(5))) {
		t.Error("P10.3: Set")
	}
	want(zooVariable, "[5]")
}

// Of what was forgotten nothing fits any more; all that leads to it says so, and stays.
func TestForgotten(t *testing.T) {
	known := table(t, declared)
	h := newZoo(t)
	box, err := h.Box(record(pointer(zooObject), list(zooArray, 2), mapping(zooMap), function(zooFunction)))
	must(t, err)
	for _, n := range []int{zooObject, zooArray, zooMap, zooVariable, zooFunction} {
		if !h.Free(n) || h.Free(n) {
			t.Errorf("P10.10: Free(%d)", n)
		}
	}
	is(t, "P10.10: Things", fmt.Sprint(h.Things()), "[6 8 9]")
	for kind, reads := range reading() {
		for name, call := range reads {
			for _, d := range fitting(kind) {
				if d.Ref.Object == 0 || d.Ref.Object == zooOther || d.Ref.Object == zooEmpty {
					continue
				}
				is(t, "P10.10: "+name+" of what was forgotten", call(t, h, d), "wrong")
			}
		}
	}
	if d, open := h.Open(zooVariable); open || h.Set(zooVariable, none) {
		t.Errorf("P10.10: a variable that was forgotten: %s", short(d))
	}
	f, err := h.Func(1, []int{zooVariable}, nil)
	is(t, "P10.1: Func of a variable that was forgotten", says(t, f, err), "wrong")
	is(t, "P10.10: Leads", fmt.Sprint(h.Leads(box)), "[1 2 3 5]")
	d, _ := h.Open(box)
	is(t, "P10.9: Show", h.Show(known, d), "T{a: ?, b: ?, 2: ?, 3: ?}")
	// A new thing has a new number, and is nobody's that led to an old one.
	for _, make := range makers() {
		make(t, h)
	}
	is(t, "P10.9: Show behind new things", h.Show(known, d), "T{a: ?, b: ?, 2: ?, 3: ?}")
}

// A datum that leads to a number that is to come does not fit until it has come.
func TestNumbersToCome(t *testing.T) {
	known := table(t, declared)
	h := heap.New()
	n, err := h.Box(list(2, 2))
	must(t, err)
	d, _ := h.Open(n)
	_, err = h.At(d, 0)
	is(t, "P10.4: At of what is to come", fault(t, err), "wrong")
	is(t, "P10.9: Show of it", h.Show(known, d), "?")
	_, err = h.List(integers(5, 6))
	must(t, err)
	is(t, "P10.4: At of what has come", elements(t, h, d), "5 6")
	is(t, "P10.9: Show of it", h.Show(known, d), "[5, 6]")
}

func TestFreeOfNone(t *testing.T) {
	h := newZoo(t)
	was := dump(t, h)
	for _, n := range []int{0, -1, zooGone, zooNext, math.MaxInt, math.MinInt, api.MaxObjects} {
		if h.Free(n) {
			t.Errorf("P10.10: Free(%d)", n)
		}
	}
	is(t, "P10.10: behind it", dump(t, h), was)
	if n, _ := h.Box(none); n != zooNext {
		t.Errorf("P10.1: the next number is %d", n)
	}
}
