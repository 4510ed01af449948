package collect_test

import (
	"fmt"
	"math/rand/v2"
	"slices"
	"testing"

	"guise/api"
	"guise/collect"
	"guise/heap"
	"guise/parse"
	"guise/types"
)

// runs does the same with two heaps, of which one is swept between, with all that it holds as roots: nothing of that is seen.
type runs struct {
	t            *testing.T
	r            *rand.Rand
	table        *types.Table
	swept, whole *heap.Heap
	l            []api.Datum // what is held
	boxes        []int
	counts       map[string]int
}

func newRuns(t *testing.T, seed uint64, counts map[string]int) *runs {
	t.Helper()
	n, err := parse.Program("type T struct { a; b }\ntype U struct { c }\nfunc main() { }")
	must(t, err)
	table, err := types.Make(n)
	must(t, err)
	return &runs{t: t, r: dice(seed), table: table, swept: heap.New(), whole: heap.New(), l: make([]api.Datum, 6), counts: counts}
}

// do asks both heaps, which answer alike; it is held what came out.
func (p *runs) do(what string, call func(h *heap.Heap) (api.Datum, error)) {
	p.t.Helper()
	got, err := call(p.swept)
	want, wanted := call(p.whole)
	is(p.t, "T6: "+what, fmt.Sprint(got, err), fmt.Sprint(want, wanted))
	if err == nil {
		p.counts[what]++
		p.hold(got)
	}
}

func (p *runs) hold(d api.Datum) { p.l[p.r.IntN(len(p.l))] = d }

func (p *runs) some(n int) []api.Datum {
	var out []api.Datum
	for range p.r.IntN(n + 1) {
		out = append(out, p.any())
	}
	return out
}

func (p *runs) any() api.Datum {
	if p.r.IntN(6) == 0 {
		return integer(p.r.IntN(3))
	}
	return p.l[p.r.IntN(len(p.l))]
}

// of is what is held of a kind, if there is such.
func (p *runs) of(kind int) api.Datum {
	for range 10 {
		if d := p.any(); d.Kind == kind {
			return d
		}
	}
	return api.Datum{Kind: kind, Type: map[int]string{api.KList: "list", api.KMap: "map", api.KFunc: "func", api.KPointer: "T"}[kind]}
}

func (p *runs) play() {
	switch p.r.IntN(9) {
	case 0, 1, 2:
		p.make()
	case 3, 4:
		p.lists()
	case 5:
		p.maps()
	case 6:
		p.objects()
	case 7:
		p.functions()
	default: // something is held no more
		p.hold(api.Datum{})
		if len(p.boxes) > 0 && p.r.IntN(3) == 0 {
			p.boxes = slices.Delete(p.boxes, 0, 1)
		}
	}
}

func (p *runs) make() {
	l := p.some(3)
	switch p.r.IntN(5) {
	case 0:
		d := record(append(l, typed("U", record(p.any())))...)
		p.do("Object", func(h *heap.Heap) (api.Datum, error) { return h.Object(d) })
	case 1:
		p.do("List", func(h *heap.Heap) (api.Datum, error) { return h.List(l) })
	case 2:
		p.do("Map", func(h *heap.Heap) (api.Datum, error) { return h.Map(), nil })
	case 3:
		d := p.any()
		n, err := p.swept.Box(d)
		m, _ := p.whole.Box(d)
		is(p.t, "T6: Box", n, m)
		if err == nil {
			p.boxes = append(p.boxes, n)
		}
	default:
		boxes := slices.Clone(p.boxes[:p.r.IntN(len(p.boxes)+1)])
		p.do("Func", func(h *heap.Heap) (api.Datum, error) { return h.Func(1, boxes, l) })
	}
}

func (p *runs) lists() {
	l, d, i := p.of(api.KList), p.any(), p.r.IntN(3)
	switch p.r.IntN(5) {
	case 0:
		p.do("At", func(h *heap.Heap) (api.Datum, error) { return h.At(l, i) })
	case 1:
		p.do("Put", func(h *heap.Heap) (api.Datum, error) { return l, h.Put(l, i, d) })
	case 2:
		p.do("Slice", func(h *heap.Heap) (api.Datum, error) { return h.Slice(l, i/2, i, -1) })
	case 3:
		from := p.of(api.KList)
		p.do("Copy", func(h *heap.Heap) (api.Datum, error) { n, err := h.Copy(l, from); return integer(n), err })
	default:
		if l.Ref.Cap < 50 {
			p.do("Append", func(h *heap.Heap) (api.Datum, error) { return h.Append(l, d, integer(i)) })
		}
	}
}

func (p *runs) maps() {
	m, k, v := p.of(api.KMap), p.any(), p.any()
	switch p.r.IntN(5) {
	case 0, 1:
		p.do("Lay", func(h *heap.Heap) (api.Datum, error) { return m, h.Lay(m, k, v) })
	case 2:
		p.do("Get", func(h *heap.Heap) (api.Datum, error) { d, _, err := h.Get(m, k); return d, err })
	case 3:
		p.do("Drop", func(h *heap.Heap) (api.Datum, error) { return m, h.Drop(m, k) })
	default:
		keys, values := p.swept.Keys(m)
		same, too := p.whole.Keys(m)
		is(p.t, "T6: Keys", fmt.Sprint(keys, values), fmt.Sprint(same, too))
		for i := range keys {
			p.hold(keys[i])
			p.hold(values[i])
		}
	}
}

func (p *runs) objects() {
	q, d := p.of(api.KPointer), p.any()
	switch p.r.IntN(4) {
	case 0:
		p.do("Read", func(h *heap.Heap) (api.Datum, error) { return h.Read(q) })
	case 1:
		laid := typed(q.Type, record(d, p.any()))
		p.do("Write", func(h *heap.Heap) (api.Datum, error) { return q, h.Write(q, laid) })
	case 2:
		field := p.r.IntN(4)
		p.do("Part", func(h *heap.Heap) (api.Datum, error) { return h.Part(q, field, "U") })
	default:
		p.do("Show", func(h *heap.Heap) (api.Datum, error) {
			return api.Datum{Kind: api.KText, Type: "text", S: h.Show(p.table, d)}, nil
		})
	}
}

func (p *runs) functions() {
	f := p.of(api.KFunc)
	code, boxes, bound, found := p.swept.Called(f)
	sameCode, sameBoxes, sameBound, too := p.whole.Called(f)
	is(p.t, "T6: Called", fmt.Sprint(code, boxes, bound, found), fmt.Sprint(sameCode, sameBoxes, sameBound, too))
	p.boxes = append(p.boxes, boxes...)
	for _, d := range bound {
		p.hold(d)
	}
	if len(p.boxes) == 0 {
		return
	}
	box, d := p.boxes[p.r.IntN(len(p.boxes))], p.any()
	is(p.t, "T6: Set", p.swept.Set(box, d), p.whole.Set(box, d))
	box = p.boxes[p.r.IntN(len(p.boxes))]
	p.do("Open", func(h *heap.Heap) (api.Datum, error) { d, _ := h.Open(box); return d, nil })
}

// sweep forgets in one heap what is not held: just what can't be come to in the other one either.
func (p *runs) sweep() {
	was := len(p.swept.Things())
	want := collect.Reached(p.whole, p.l, p.boxes)
	gone := collect.Sweep(p.swept, p.l, p.boxes)
	is(p.t, "T6: what is left", p.swept.Things(), fmt.Sprint(want))
	is(p.t, "T6: how many went", gone, was-len(want))
	is(p.t, "T6: what they hold", dump(p.t, p.swept, want), dump(p.t, p.whole, want))
	if gone > 0 {
		p.counts["gone"]++
	}
	if len(want) > 0 {
		p.counts["left"]++
	}
}

func TestCollectionsDoNotShow(t *testing.T) {
	counts := map[string]int{}
	for seed := range uint64(200) {
		p := newRuns(t, seed, counts)
		often := 1 + p.r.IntN(20)
		for range 300 {
			p.play()
			if p.r.IntN(often) == 0 {
				p.sweep()
			}
			if t.Failed() {
				t.Fatalf("the seed %d", seed)
			}
		}
		for _, n := range p.swept.Things() {
			if !slices.Contains(p.whole.Things(), n) {
				t.Errorf("T6: %d is no thing where nothing was swept", n)
			}
		}
		p.l, p.boxes = nil, nil
		p.sweep()
		is(t, "T6: all else goes", p.swept.Things(), "[]")
	}
	for _, what := range []string{"gone", "left", "Object", "List", "Map", "Func", "At", "Put", "Slice", "Copy", "Append", "Lay", "Get", "Drop", "Read", "Write", "Part", "Show", "Open"} {
		if counts[what] < 100 {
			t.Errorf("%s came %d times by chance", what, counts[what])
		}
	}
}

// With more roots no less is come to: with each root, and each pair of them, of a heap with all kinds of leads.
func TestMoreRoots(t *testing.T) {
	h := made(t, numbers(2), numbers(3, 4), numbers(2), nil, numbers(6), numbers(6, 4), nil)
	for a := range 9 {
		alone := collect.Reached(h, pointers(a), nil)
		for b := range 9 {
			both, other := collect.Reached(h, pointers(a), numbers(b)), collect.Reached(h, nil, numbers(b))
			all := slices.Concat(alone, other)
			slices.Sort(all)
			is(t, fmt.Sprint("C4: from ", a, " and ", b), list0(both), list0(slices.Compact(all)))
		}
	}
}
