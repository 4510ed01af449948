package collect_test

import (
	"slices"

	"guise/api"
	"guise/heap"
)

// A second reading of the chapter: without a list of what waits, word by word.

// namedBy tells whether a datum makes a number a root, were it a thing.
func namedBy(d api.Datum, n int) bool {
	if d.Ref.Object != 0 && d.Ref.Object == n {
		return true
	}
	return d.Kind == api.KStruct && slices.ContainsFunc(d.Items, func(item api.Datum) bool { return namedBy(item, n) })
}

func rootsOf(h *heap.Heap, l []api.Datum, boxes []int) []int {
	var out []int
	for _, n := range h.Things() {
		if slices.Contains(boxes, n) || slices.ContainsFunc(l, func(d api.Datum) bool { return namedBy(d, n) }) {
			out = append(out, n)
		}
	}
	return out
}

// reachedOf adds to the roots what is led to, until nothing is new.
func reachedOf(h *heap.Heap, l []api.Datum, boxes []int) []int {
	out := rootsOf(h, l, boxes)
	for {
		was := len(out)
		for _, n := range h.Things() {
			if !slices.Contains(out, n) && slices.ContainsFunc(out, func(by int) bool { return slices.Contains(h.Leads(by), n) }) {
				out = append(out, n)
			}
		}
		if len(out) == was {
			slices.Sort(out)
			return out
		}
	}
}

// wayOf goes back from the end: how far from it each thing is; then from the least of the nearest roots, always to the least that is one nearer.
func wayOf(h *heap.Heap, l []api.Datum, boxes []int, to int) []int {
	if !slices.Contains(h.Things(), to) {
		return nil
	}
	far := map[int]int{to: 0}
	for step := 1; step <= len(h.Things()); step++ {
		for _, n := range h.Things() {
			_, known := far[n]
			if !known && slices.ContainsFunc(h.Leads(n), func(by int) bool { d, is := far[by]; return is && d == step-1 }) {
				far[n] = step
			}
		}
	}
	least := func(all []int, most int) int {
		best := 0
		for _, n := range all {
			if d, is := far[n]; is && d <= most && (best == 0 || d < far[best] || d == far[best] && n < best) {
				best = n
			}
		}
		return best
	}
	var row []int
	for n := least(rootsOf(h, l, boxes), len(far)); n != 0; n = least(h.Leads(n), far[n]-1) {
		row = append(row, n)
	}
	return row
}

// everyWay tries all rows, as long as any shortest one could be.
func everyWay(h *heap.Heap, l []api.Datum, boxes []int, to int) []int {
	things := h.Things()
	var best []int
	var try func(row, next []int)
	try = func(row, next []int) {
		if len(row) > 0 && row[len(row)-1] == to && (best == nil || len(row) < len(best) || len(row) == len(best) && slices.Compare(row, best) < 0) {
			best = slices.Clone(row)
		}
		if len(row) == len(things) {
			return
		}
		for _, n := range next {
			if slices.Contains(things, n) {
				try(append(slices.Clone(row), n), h.Leads(n))
			}
		}
	}
	try(nil, rootsOf(h, l, boxes))
	return best
}
