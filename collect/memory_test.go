package collect_test

import (
	"fmt"
	"strings"
	"sync"
	"testing"

	"guise/api"
	"guise/collect"
	"guise/heap"
)

// roomy is data in memory of their own, with something behind each list.
func roomy(l []api.Datum) []api.Datum {
	out := append(make([]api.Datum, 0, len(l)+2), l...)
	for i := range out {
		path := append(make([]int, 0, len(l)+3), out[i].Ref.Path...)
		copy(path[len(path):cap(path)], numbers(1, 2, 3))
		out[i].Ref.Path, out[i].Items = path, roomy(out[i].Items)
	}
	copy(out[len(out):cap(out)], pointers(4, 5))
	return out
}

// drawn writes data with what stands behind their lists.
func drawn(l []api.Datum) string {
	var out []string
	for _, d := range l[:cap(l)] {
		items := d.Items
		d.Ref.Path, d.Items = d.Ref.Path[:cap(d.Ref.Path)], nil
		out = append(out, fmt.Sprintf("%+v", d)+drawn(items))
	}
	return "{" + strings.Join(out, ", ") + "}"
}

func wipe(l []api.Datum) {
	l = l[:cap(l)]
	for i, d := range l {
		wipe(d.Items)
		wipeNumbers(d.Ref.Path)
		l[i] = pointer(5)
	}
}

func wipeNumbers(l []int) {
	l = l[:cap(l)]
	for i := range l {
		l[i] = 5
	}
}

// What is handed in is neither changed, with all that stands behind it, nor kept; what comes out is new memory, spare room too.
func TestMemory(t *testing.T) {
	for seed := range uint64(400) {
		r := dice(2<<32 + seed)
		g := &grower{t: t, pick: r.IntN, count: 5 + r.IntN(6)}
		h := g.heap(3)
		plain, more := g.roots()
		l, boxes := roomy(append(plain, pointer(1+r.IntN(5)), record(pointer(2)))), append(append(make([]int, 0, len(more)+5), more...), 3)
		copy(boxes[len(boxes):cap(boxes)], numbers(1, 2, 4, 5))
		before, beforeBoxes, beforeHeap := drawn(l), fmt.Sprint(boxes[:cap(boxes)]), dump(t, h, h.Things())
		same := func(what string) {
			t.Helper()
			is(t, what+" changes data", drawn(l), before)
			is(t, what+" changes boxes", boxes[:cap(boxes)], beforeBoxes)
			is(t, what+" changes the heap", dump(t, h, h.Things()), beforeHeap)
		}
		want, to := fmt.Sprint(list0(reachedOf(h, l, boxes))), 1+r.IntN(g.count)
		wantWay := fmt.Sprint(list0(wayOf(h, l, boxes, to)))
		a, b := collect.Reached(h, l, boxes), collect.Reached(h, l, boxes)
		same("Reached")
		v, w := collect.Way(h, l, boxes, to), collect.Way(h, l, boxes, to)
		same("Way")
		wipeNumbers(b)
		wipeNumbers(w)
		same("what came out, written over,")
		is(t, "P3: another answer was written over", fmt.Sprint(a, list0(v)), want+" "+wantWay)
		is(t, "P4: once more", fmt.Sprint(collect.Reached(h, l, boxes), list0(collect.Way(h, l, boxes, to))), want+" "+wantWay)
		wipe(l)
		wipeNumbers(boxes)
		is(t, "what was handed in was written over", fmt.Sprint(a, list0(v)), want+" "+wantWay)
		is(t, "the heap keeps what was handed in", dump(t, h, h.Things()), beforeHeap)
	}
}

// Sweep changes nothing that is handed in, but the heap; and keeps nothing.
func TestMemoryOfSweep(t *testing.T) {
	for seed := range uint64(400) {
		r := dice(3<<32 + seed)
		g := &grower{t: t, pick: r.IntN, count: 5 + r.IntN(6)}
		h := g.heap(3)
		plain, more := g.roots()
		l, boxes := roomy(plain), append(append(make([]int, 0, len(more)+2), more...), 3)
		before, beforeBoxes := drawn(l), fmt.Sprint(boxes[:cap(boxes)])
		collect.Sweep(h, l, boxes)
		is(t, "Sweep changes data", drawn(l), before)
		is(t, "Sweep changes boxes", boxes[:cap(boxes)], beforeBoxes)
		left := dump(t, h, h.Things())
		wipe(l)
		wipeNumbers(boxes)
		is(t, "the heap keeps what was handed in", dump(t, h, h.Things()), left)
	}
}

// Lists of nothing are answered, nil or empty; what is written behind one is nobody else's.
func TestSpareRoom(t *testing.T) {
	h := world(t)
	for range 2 {
		for _, l := range [][]int{collect.Reached(h, nil, nil), collect.Way(h, nil, nil, 1), collect.Way(h, pointers(1), nil, 4), collect.Reached(heap.New(), nil, nil)} {
			is(t, "a list of nothing", list0(l), "[]")
			wipeNumbers(l)
		}
		for _, l := range [][]int{collect.Reached(h, pointers(1), nil), collect.Way(h, pointers(3), nil, 2)} {
			is(t, "how many", len(l), 3)
			wipeNumbers(append(l, 7, 7))
			wipeNumbers(l)
		}
		is(t, "C1", collect.Reached(h, pointers(1), nil), "[1 2 3]")
		is(t, "C3", collect.Way(h, pointers(3), nil, 2), "[3 1 2]")
	}
}

// Heaps of several goroutines, and the same roots: calls know nothing of one another.
func TestAtOneTime(t *testing.T) {
	l, boxes := data(record(mapping(3), record(pointer(5)))), numbers(9, 1)
	var all sync.WaitGroup
	for range 8 {
		h := world(t)
		all.Go(func() {
			for range 50 {
				if got := fmt.Sprint(collect.Reached(h, l, boxes), collect.Way(h, l, boxes, 2), collect.Sweep(h, l, boxes)); got != "[1 2 3 5] [1 2] 1" && got != "[1 2 3 5] [1 2] 0" {
					t.Errorf("P4: %s at one time", got)
				}
			}
		})
	}
	all.Wait()
}
