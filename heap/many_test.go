package heap

import (
	"errors"
	"fmt"
	"strings"
	"testing"

	"guise/api"
)

// full is a heap that has given all its numbers but so many; of the first ones there are an array of two elements, and a variable.
func full(t *testing.T, left int) *Heap {
	t.Helper()
	h := New()
	if _, err := h.List(make([]api.Datum, 2)); err != nil {
		t.Fatal(err)
	}
	if _, err := h.Box(api.Datum{}); err != nil {
		t.Fatal(err)
	}
	h.last = api.MaxObjects - left
	return h
}

var (
	whole = api.Datum{Kind: api.KList, Type: "list", Ref: api.Ref{Object: 1, Len: 2, Cap: 2}}
	part  = api.Datum{Kind: api.KList, Type: "list", Ref: api.Ref{Object: 1, Len: 1, Cap: 2}}
	bad   = api.Datum{Kind: api.KBool, Type: "bool", N: 2}
)

// calls make a thing each, or refuse what they are handed.
func calls(h *Heap) map[string]func() (api.Datum, error) {
	made := func(n int, err error) (api.Datum, error) {
		return api.Datum{Ref: api.Ref{Object: n}}, err
	}
	return map[string]func() (api.Datum, error){
		"Object":                 func() (api.Datum, error) { return h.Object(api.Datum{Kind: api.KStruct, Type: "T"}) },
		"List":                   func() (api.Datum, error) { return h.List(nil) },
		"Box":                    func() (api.Datum, error) { return made(h.Box(api.Datum{})) },
		"Func":                   func() (api.Datum, error) { return h.Func(0, []int{2}, nil) },
		"Append":                 func() (api.Datum, error) { return h.Append(whole, api.Datum{}) },
		"bad Object":             func() (api.Datum, error) { return h.Object(api.Datum{}) },
		"bad List":               func() (api.Datum, error) { return h.List([]api.Datum{bad}) },
		"long bad List":          func() (api.Datum, error) { return h.List(make([]api.Datum, api.MaxRoom+1)) },
		"bad Box":                func() (api.Datum, error) { return made(h.Box(bad)) },
		"bad Func":               func() (api.Datum, error) { return h.Func(-1, nil, nil) },
		"bad Func of a variable": func() (api.Datum, error) { return h.Func(0, []int{1}, nil) },
		"bad Append":             func() (api.Datum, error) { return h.Append(whole, bad) },
		"long bad Append":        func() (api.Datum, error) { return h.Append(whole, make([]api.Datum, api.MaxRoom)...) },
		"bad Append to none":     func() (api.Datum, error) { return h.Append(api.Datum{}, api.Datum{}) },
	}
}

// The last number is given; behind it there is ErrMany, and ErrArg ahead of it; nothing is changed.
func TestNoNumberLeft(t *testing.T) {
	for name := range calls(nil) {
		h := full(t, 1)
		d, err := calls(h)[name]()
		if refused := strings.Contains(name, "bad"); refused {
			if !errors.Is(err, api.ErrArg) || d.Ref.Object != 0 || h.last != api.MaxObjects-1 {
				t.Errorf("P10.1: %s: %v, %v", name, d, err)
			}
		} else if err != nil || d.Ref.Object != api.MaxObjects || len(h.things) != 3 {
			t.Errorf("P10.1: %s with the last number: %v, %v", name, d, err)
		}
		for _, free := range []bool{false, true} {
			h = full(t, 0)
			if free {
				h.things[7] = &variable{}
				h.Free(7) // its number is not given again
			}
			d, err = calls(h)[name]()
			want := api.ErrMany
			if strings.Contains(name, "bad") {
				want = api.ErrArg
			}
			w, is := err.(*api.Wrong)
			if !is || *w != (api.Wrong{Code: want}) || fmt.Sprint(d) != fmt.Sprint(api.Datum{}) {
				t.Errorf("P10.1: %s without a number: %v, %v", name, d, err)
			}
			if h.last != api.MaxObjects || fmt.Sprint(h.Things()) != "[1 2]" {
				t.Errorf("P10.1: behind %s without a number: %d, %v", name, h.last, h.Things())
			}
		}
	}
}

func TestMapWithoutANumber(t *testing.T) {
	h := full(t, 1)
	if m := h.Map(); m.Kind != api.KMap || m.Type != "map" || m.Ref.Object != api.MaxObjects || h.Lay(m, api.Datum{}, m) != nil {
		t.Errorf("P10.1: Map with the last number: %v", m)
	}
	for range 2 {
		if m := h.Map(); fmt.Sprint(m) != fmt.Sprint(api.Datum{}) {
			t.Errorf("P10.1: Map without a number: %v", m)
		}
	}
	if fmt.Sprint(h.Things()) != "[1 2 2147483647]" || fmt.Sprint(h.Leads(api.MaxObjects)) != "[2147483647]" {
		t.Errorf("P10.1: %v, %v", h.Things(), h.Leads(api.MaxObjects))
	}
}

// What needs no number is done.
func TestWithoutANumber(t *testing.T) {
	h := full(t, 0)
	l, err := h.Append(part, api.Datum{Kind: api.KInt, Type: "int", N: 5})
	if err != nil || fmt.Sprint(l) != fmt.Sprint(whole) {
		t.Errorf("P10.6: Append with room: %v, %v", l, err)
	}
	if d, err := h.At(whole, 1); err != nil || d.N != 5 {
		t.Errorf("P10.6: behind it: %v, %v", d, err)
	}
	if l, err := h.Append(whole); err != nil || fmt.Sprint(l) != fmt.Sprint(whole) {
		t.Errorf("P10.6: Append of none: %v, %v", l, err)
	}
	if !h.Set(2, whole) {
		t.Error("P10.3: Set")
	}
}
