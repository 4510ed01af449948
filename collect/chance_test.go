package collect_test

import (
	"fmt"
	"maps"
	"slices"
	"testing"

	"guise/api"
	"guise/collect"
	"guise/heap"
)

// grower makes heaps and roots as pick says: the same picks, the same heap.
type grower struct {
	t     testing.TB
	pick  func(n int) int // from 0 to n less 1
	count int             // how many things there are to be
}

func one[T any](g *grower, list ...T) T { return list[g.pick(len(list))] }

// number is one of a thing, most often.
func (g *grower) number() int {
	if g.pick(12) == 0 {
		return one(g, g.count+1, g.count+2, api.MaxObjects)
	}
	return 1 + g.pick(g.count)
}

// lead is a right datum, that may be a key.
func (g *grower) lead() api.Datum {
	switch n := g.number(); g.pick(8) {
	case 0:
		return integer(n)
	case 1:
		return record(integer(1), pointer(n))
	case 2:
		return record(pointer(n), within(1, pointer(g.number())))
	case 3:
		return pointer(n, 1, 0)
	default:
		return pointer(n)
	}
}

// heap makes one of so many things, each of which leads to so many others at most; then forgets some.
func (g *grower) heap(most int) *heap.Heap {
	h := heap.New()
	all := makers()
	names := slices.Sorted(maps.Keys(all))
	var boxes []int
	straight := g.pick(3) == 1 // one leads to the next, and few to others: long rows
	for len(h.Things()) < g.count {
		var l []api.Datum
		if straight {
			l = pointers(len(h.Things()) + 2)
			most = 1
		}
		for range g.pick(most + 1) {
			l = append(l, g.lead())
		}
		if len(boxes) > 0 && g.pick(6) == 1 {
			_, err := h.Func(g.pick(3), numbers(one(g, boxes...), one(g, boxes...)), l)
			must(g.t, err)
			continue
		}
		name := one(g, names...)
		n, err := all[name](h, l)
		must(g.t, err)
		if name == "variable" {
			boxes = append(boxes, n)
		}
	}
	for g.pick(3) == 1 {
		h.Free(g.number())
	}
	return h
}

// root is a datum that may name a thing, or hide one.
func (g *grower) root() api.Datum {
	n := g.number()
	switch g.pick(6) {
	case 0:
		return one(g, silent(n)...)
	case 1:
		return one(g, naming(n)...)
	case 2:
		return one(g, naming(one(g, 0, -1, n, -n))...)
	case 3:
		d := record(g.root(), integer(n))
		d.Kind = one(g, api.KStruct, api.KStruct, api.KStruct, api.KList, api.KNil, 10)
		return d
	case 4:
		return within(g.pick(4), pointer(n))
	}
	return pointer(n)
}

func (g *grower) roots() ([]api.Datum, []int) {
	var l []api.Datum
	var boxes []int
	for g.pick(3) > 0 && len(l) < 6 {
		l = append(l, g.root())
	}
	for g.pick(3) == 1 {
		boxes = append(boxes, one(g, g.number(), g.number(), 0, -g.number()))
	}
	return l, boxes
}

// asPromised holds all calls against the second reading, and against one another; the heap is swept behind it. It counts what came.
func (g *grower) asPromised(h *heap.Heap, counts map[string]int) {
	g.t.Helper()
	l, boxes := g.roots()
	what := fmt.Sprintf("of %+v, %v in\n%s\n", l, boxes, dump(g.t, h, h.Things()))
	all, before := h.Things(), dump(g.t, h, h.Things())
	got, want := collect.Reached(h, l, boxes), reachedOf(h, l, boxes)
	is(g.t, "C1: "+what, got, fmt.Sprint(want))
	for to := -1; to <= g.count+3; to++ {
		g.wayAsPromised(what, h, l, boxes, to, counts)
	}
	more, others := g.roots()
	for _, n := range got {
		if !slices.Contains(collect.Reached(h, slices.Concat(l, more), slices.Concat(others, boxes)), n) {
			g.t.Errorf("C4: with more roots %d is not come to: %s", n, what)
		}
	}
	is(g.t, "C1: Reached and Way change the heap: "+what, dump(g.t, h, h.Things()), before)
	left := dump(g.t, h, want)
	is(g.t, "C2: "+what, collect.Sweep(h, l, boxes), len(all)-len(want))
	is(g.t, "C4: behind Sweep: "+what, h.Things(), fmt.Sprint(want))
	is(g.t, "C2: what is left: "+what, dump(g.t, h, h.Things()), left)
	is(g.t, "C4: Reached behind Sweep: "+what, collect.Reached(h, l, boxes), fmt.Sprint(want))
	is(g.t, "C4: a second Sweep: "+what, collect.Sweep(h, l, boxes), 0)
	for _, n := range all {
		if gone := !slices.Contains(want, n); gone && slices.ContainsFunc(h.Things(), func(by int) bool { return slices.Contains(h.Leads(by), n) }) {
			g.t.Errorf("C2: something leads to %d, which went: %s", n, what)
		}
	}
	switch len(want) {
	case 0:
		counts["none come to"]++
	case len(all):
		counts["all come to"]++
	default:
		counts["some come to"]++
	}
}

func (g *grower) wayAsPromised(what string, h *heap.Heap, l []api.Datum, boxes []int, to int, counts map[string]int) {
	g.t.Helper()
	what = fmt.Sprint("to ", to, " ", what)
	row := collect.Way(h, l, boxes, to)
	is(g.t, "C3: "+what, list0(row), fmt.Sprint(list0(wayOf(h, l, boxes, to))))
	if g.count <= 4 {
		is(g.t, "C3: of all rows: "+what, list0(row), fmt.Sprint(list0(everyWay(h, l, boxes, to))))
	}
	come := collect.Reached(h, l, boxes)
	if slices.Contains(come, to) != (len(row) > 0) {
		g.t.Errorf("C4: %v: %s", row, what)
	}
	for _, n := range row {
		if !slices.Contains(come, n) {
			g.t.Errorf("C4: %v lies not within %v: %s", row, come, what)
		}
	}
	counts[fmt.Sprint("a row of ", min(len(row), 6))]++
}

func TestByChance(t *testing.T) {
	counts := map[string]int{}
	for seed := range uint64(3000) {
		r := dice(seed)
		g := &grower{t: t, pick: r.IntN, count: 1 + r.IntN(12)}
		g.asPromised(g.heap(1+r.IntN(4)), counts)
		if t.Failed() {
			t.Fatalf("the seed %d", seed)
		}
	}
	for _, what := range []string{"none come to", "some come to", "all come to", "a row of 0", "a row of 1", "a row of 2", "a row of 3", "a row of 4", "a row of 5", "a row of 6"} {
		if counts[what] < 100 {
			t.Errorf("%s came %d times by chance", what, counts[what])
		}
	}
}

// Few things, that lead to one another in many ways: all rows are tried.
func TestSmallOnesByChance(t *testing.T) {
	counts := map[string]int{}
	for seed := range uint64(1500) {
		r := dice(1<<32 + seed)
		g := &grower{t: t, pick: r.IntN, count: 2 + r.IntN(3)}
		g.asPromised(g.heap(3), counts)
		if t.Failed() {
			t.Fatalf("the seed %d", seed)
		}
	}
}

// What bytes say is made, and asked: any bytes are a heap and roots.
func FuzzCollect(f *testing.F) {
	f.Add([]byte{5, 1, 0, 1, 2, 1, 2, 3, 1, 3, 5, 18, 9, 1, 1, 9, 9})
	f.Add([]byte("things that lead to things, roots and numbers of none, what is come to and what is forgotten"))
	f.Fuzz(func(t *testing.T, bytes []byte) {
		left := bytes
		pick := func(n int) int {
			if len(left) == 0 {
				return 0
			}
			got := int(left[0])
			left = left[1:]
			return got % n
		}
		g := &grower{t: t, pick: pick, count: 1 + pick(16)}
		g.asPromised(g.heap(1+pick(5)), map[string]int{})
	})
}
