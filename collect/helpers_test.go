package collect_test

import (
	"fmt"
	"math"
	"math/rand/v2"
	"slices"
	"strings"
	"testing"

	"guise/api"
	"guise/collect"
	"guise/heap"
)

func integer(n int) api.Datum { return api.Datum{Kind: api.KInt, Type: "int", N: n} }

func piece(object, from, length, room int) api.Datum {
	return api.Datum{Kind: api.KList, Type: "list", Ref: api.Ref{Object: object, From: from, Len: length, Cap: room}}
}

func list(object int) api.Datum { return piece(object, 0, 0, 0) }

func mapping(object int) api.Datum {
	return api.Datum{Kind: api.KMap, Type: "map", Ref: api.Ref{Object: object}}
}

func function(object int) api.Datum {
	return api.Datum{Kind: api.KFunc, Type: "func", Ref: api.Ref{Object: object}}
}

func pointer(object int, path ...int) api.Datum {
	return api.Datum{Kind: api.KPointer, Type: "T", Ref: api.Ref{Object: object, Path: path}}
}

func record(items ...api.Datum) api.Datum {
	return api.Datum{Kind: api.KStruct, Type: "T", Items: items}
}

func typed(name string, d api.Datum) api.Datum {
	d.Type = name
	return d
}

// within lays d into structs within one another, so many of them, between other Items.
func within(deep int, d api.Datum) api.Datum {
	for range deep {
		d = record(integer(1), d, api.Datum{})
	}
	return d
}

func data(l ...api.Datum) []api.Datum { return l }

func numbers(l ...int) []int { return l }

func pointers(to ...int) []api.Datum {
	var out []api.Datum
	for _, n := range to {
		out = append(out, pointer(n))
	}
	return out
}

// makers make a thing of each kind, that leads to what stands in l, which are no lists, maps and functions where they would be keys.
func makers() map[string]func(h *heap.Heap, l []api.Datum) (int, error) {
	lay := func(h *heap.Heap, l []api.Datum, pair func(i int, d api.Datum) (api.Datum, api.Datum)) (int, error) {
		m := h.Map()
		for i, d := range l {
			k, v := pair(i, d)
			if err := h.Lay(m, k, v); err != nil {
				return 0, err
			}
		}
		return m.Ref.Object, nil
	}
	return map[string]func(h *heap.Heap, l []api.Datum) (int, error){
		"list": func(h *heap.Heap, l []api.Datum) (int, error) { d, err := h.List(l); return d.Ref.Object, err },
		"object": func(h *heap.Heap, l []api.Datum) (int, error) {
			d, err := h.Object(record(l...))
			return d.Ref.Object, err
		},
		"part": func(h *heap.Heap, l []api.Datum) (int, error) {
			d, err := h.Object(record(integer(1), typed("U", record(l...))))
			return d.Ref.Object, err
		},
		"keys": func(h *heap.Heap, l []api.Datum) (int, error) {
			return lay(h, l, func(i int, d api.Datum) (api.Datum, api.Datum) { return d, integer(i) })
		},
		"keys within": func(h *heap.Heap, l []api.Datum) (int, error) {
			return lay(h, l, func(i int, d api.Datum) (api.Datum, api.Datum) { return record(integer(i), d), api.Datum{} })
		},
		"values": func(h *heap.Heap, l []api.Datum) (int, error) {
			return lay(h, l, func(i int, d api.Datum) (api.Datum, api.Datum) { return integer(i), d })
		},
		"variable": func(h *heap.Heap, l []api.Datum) (int, error) {
			if len(l) == 1 {
				return h.Box(l[0])
			}
			return h.Box(record(l...))
		},
		"bound": func(h *heap.Heap, l []api.Datum) (int, error) {
			d, err := h.Func(7, nil, l)
			return d.Ref.Object, err
		},
	}
}

// made is a heap of things that lead to numbers, the first one the thing 1: all lists.
func made(t testing.TB, leads ...[]int) *heap.Heap {
	t.Helper()
	h := heap.New()
	for i, to := range leads {
		d, err := h.List(pointers(to...))
		if err != nil || d.Ref.Object != i+1 {
			t.Fatalf("List: %v, %v", d, err)
		}
	}
	return h
}

// world is the chapter's heap: the list 1, the object 2, the map 3, the variable 4, the object 5.
func world(t testing.TB) *heap.Heap {
	t.Helper()
	h := heap.New()
	l, err := h.List(data(pointer(2), integer(5)))
	must(t, err)
	_, err = h.Object(record(mapping(3)))
	must(t, err)
	m := h.Map()
	must(t, h.Lay(m, integer(1), l))
	_, err = h.Box(api.Datum{})
	must(t, err)
	_, err = h.Object(typed("F", record()))
	must(t, err)
	return h
}

func must(t testing.TB, err error) {
	t.Helper()
	if err != nil {
		t.Fatalf("%v, must be nothing", err)
	}
}

func is(t testing.TB, what string, got, want any) {
	t.Helper()
	if g, w := fmt.Sprint(got), fmt.Sprint(want); g != w {
		t.Errorf("%s: %s, must be %s", what, g, w)
	}
}

// strangers are numbers of no things of a heap: forgotten ones that are told, and others.
func strangers(h *heap.Heap, gone ...int) []int {
	last := 0
	for _, n := range h.Things() {
		last = max(last, n)
	}
	return append(gone, 0, -1, -last, last+1, last+2, api.MaxObjects, api.MaxObjects+1, math.MaxInt, math.MinInt)
}

// held writes what a thing holds, by the heap's own calls.
func held(t testing.TB, h *heap.Heap, n int) string {
	t.Helper()
	if d, is := h.Open(n); is {
		return fmt.Sprint("variable ", d)
	}
	if code, boxes, bound, is := h.Called(function(n)); is {
		return fmt.Sprint("function ", code, boxes, bound)
	}
	if _, err := h.Slice(list(n), 0, 0, -1); err == nil {
		return "array" + elements(h, n)
	}
	if _, _, err := h.Get(mapping(n), integer(0)); err == nil {
		keys, values := h.Keys(mapping(n))
		return fmt.Sprint("map ", keys, values)
	}
	for _, name := range []string{"T", "F"} {
		if d, err := h.Read(typed(name, pointer(n))); err == nil {
			return fmt.Sprint("object ", d)
		}
	}
	t.Fatalf("the thing %d is none of the five", n)
	return ""
}

func elements(h *heap.Heap, n int) string {
	var out strings.Builder
	for i := 0; ; i++ {
		d, err := h.At(piece(n, i, 1, 1), 0)
		if err != nil {
			return out.String()
		}
		fmt.Fprint(&out, " ", d)
	}
}

// dump writes of some things what they hold, and where they lead.
func dump(t testing.TB, h *heap.Heap, things []int) string {
	t.Helper()
	var out []string
	for _, n := range things {
		out = append(out, fmt.Sprint(n, " ", held(t, h, n), " leads ", h.Leads(n)))
	}
	return strings.Join(out, "\n")
}

// reached asks Reached, and holds against it what Way and Sweep must say then; the heap is swept behind it.
func reached(t testing.TB, what string, h *heap.Heap, l []api.Datum, boxes []int, want ...int) {
	t.Helper()
	all := h.Things()
	before := dump(t, h, all)
	is(t, "C1: "+what, collect.Reached(h, l, boxes), list0(want))
	for _, n := range append(slices.Clone(all), strangers(h)...) {
		way := collect.Way(h, l, boxes, n)
		if slices.Contains(want, n) != (len(way) > 0) {
			t.Errorf("C3: %s: the way to %d is %v", what, n, way)
		}
	}
	is(t, "C1: behind Reached and Way: "+what, dump(t, h, h.Things()), before)
	left := dump(t, h, list0(want))
	is(t, "C2: "+what, collect.Sweep(h, l, boxes), len(all)-len(want))
	is(t, "C2: what is left: "+what, h.Things(), list0(want))
	is(t, "C2: what is left answers as before: "+what, dump(t, h, h.Things()), left)
	is(t, "C4: again: "+what, collect.Sweep(h, l, boxes), 0)
}

// list0 is a list that is written alike, nil or empty.
func list0(l []int) []int { return append([]int{}, l...) }

// dice gives the same numbers on every run.
func dice(seed uint64) *rand.Rand { return rand.New(rand.NewPCG(seed, 18)) }
