package heap_test

import (
	"fmt"
	"math"
	"slices"
	"strings"
	"testing"

	"guise/api"
	"guise/heap"
	"guise/types"
)

// player does with a heap what pick says, and writes down what was answered: the same picks, the same doings.
type player struct {
	h     store
	pick  func(n int) int // from 0 to n less 1
	known *types.Table
	data  []api.Datum // that came out, or were made up
	log   strings.Builder
	t     testing.TB
}

func (p *player) say(what string, answers ...any) {
	fmt.Fprintln(&p.log, append([]any{what}, answers...)...)
}

func one[T any](p *player, list ...T) T { return list[p.pick(len(list))] }

// keep lets a datum come again later; not lists with much room, of which Append would make ones with twice as much, again and again.
func (p *player) keep(d api.Datum, err error) string {
	out := says(p.t, d, err)
	if err == nil && d.Ref.Cap < 100 {
		p.data = append(p.data, d)
	}
	return out
}

// of is a datum of that kind that was seen, most often; else any.
func (p *player) of(kind int) api.Datum {
	if p.pick(12) > 0 {
		for range 8 {
			if d := one(p, p.data...); d.Kind == kind && (d.Ref.Object > 0 || p.pick(4) == 0) {
				return d
			}
		}
		return p.up(kind)
	}
	return p.any()
}

// up makes a datum up that may fit.
func (p *player) up(kind int) api.Datum {
	n := p.pick(len(p.h.Things()) + 4)
	switch kind {
	case api.KPointer:
		path := []int{}
		for p.pick(3) == 1 { // 0 is what is picked for ever, when bytes are at their end
			path = append(path, p.pick(3))
		}
		if n == 0 {
			path = nil
		}
		return typed(one(p, "T", "U", "V"), pointer(n, path...))
	case api.KList:
		room := p.pick(6)
		if n == 0 {
			return typed(one(p, "list", "L"), list(0, 0))
		}
		return typed(one(p, "list", "L"), piece(n, p.pick(4), p.pick(room+1), room))
	case api.KMap:
		return typed(one(p, "map", "M"), mapping(n))
	case api.KFunc:
		return typed(one(p, "func", "F"), function(n))
	}
	return p.any()
}

// structs of types that have parts of one another, so that paths lead somewhere.
func (p *player) record() api.Datum {
	d := typed(one(p, "T", "U", "V", "W"), record())
	if p.pick(12) == 0 {
		d.Items = sized(20 + p.pick(80)).Items
	}
	for p.pick(4) > 0 && len(d.Items) < 5 {
		if p.pick(3) == 0 {
			d.Items = append(d.Items, p.record())
		} else {
			d.Items = append(d.Items, p.any())
		}
	}
	return d
}

func (p *player) any() api.Datum {
	switch p.pick(10) {
	case 0:
		return one(p, leadless()...)
	case 1:
		return one(p, nils()...)
	case 2:
		if p.pick(6) == 0 {
			return one(p, wrong()...)
		}
		return p.up(p.pick(10))
	case 3:
		return p.record()
	case 4:
		return integer(p.pick(5))
	case 5:
		return one(p, none, text("a"), nan, float(0), bits(minusZero), boolean(1), typed("A", integer(1)), typed("A", text("a")), text("a longer text, to be shown"))
	}
	return one(p, p.data...)
}

func (p *player) some(n int) []api.Datum {
	var out []api.Datum
	for range p.pick(n) {
		out = append(out, p.any())
	}
	return out
}

func (p *player) number() int {
	if p.pick(20) == 0 {
		return one(p, 0, -1, math.MaxInt, math.MinInt, api.MaxObjects)
	}
	return p.pick(len(p.h.Things()) + 5)
}

// play does something, of one group of calls.
func (p *player) play() {
	switch p.pick(12) {
	case 0, 1:
		p.make()
	case 2, 3, 4:
		p.objects()
	case 5, 6, 7:
		p.lists()
	case 8, 9:
		p.maps()
	default:
		p.others()
	}
}

func (p *player) make() {
	switch p.pick(5) {
	case 0:
		d := p.record()
		p.say("object", p.keep(p.h.Object(d)))
	case 1:
		p.say("list", p.keep(p.h.List(p.some(7))))
	case 2:
		p.say("map", p.keep(p.h.Map(), nil))
	case 3:
		n, err := p.h.Box(p.any())
		p.say("box", n, fault(p.t, err))
	case 4:
		var boxes []int
		for p.pick(2) > 0 {
			boxes = append(boxes, p.number())
		}
		p.say("func", p.keep(p.h.Func(p.pick(5)-p.pick(2), boxes, p.some(3))))
	}
}

func (p *player) objects() {
	q := p.of(api.KPointer)
	switch p.pick(6) {
	case 0, 1:
		p.say("read", short(q), p.keep(p.h.Read(q)))
	case 2, 3:
		d := p.any()
		if p.pick(4) > 0 {
			d = typed(q.Type, p.record())
		}
		if len(q.Ref.Path) > 0 && p.pick(2) == 0 { // the whole may be too large then
			d = typed(q.Type, sized(50+p.pick(52)))
		}
		p.say("write", short(q), short(d), fault(p.t, p.h.Write(q, d)))
	default:
		field, name := p.part(q)
		p.say("part", short(q), field, name, p.keep(p.h.Part(q, field, name)))
	}
}

// part is one that there is, if there is one, most often.
func (p *player) part(q api.Datum) (int, string) {
	field, name := p.pick(4)-p.pick(2), one(p, "T", "U", "V", "W", "int", "")
	if d, err := p.h.Read(q); err == nil && p.pick(4) > 0 {
		for i, item := range d.Items {
			if item.Kind == api.KStruct && p.pick(3) > 0 {
				return i, item.Type
			}
		}
	}
	return field, name
}

func (p *player) lists() {
	l := p.of(api.KList)
	switch p.pick(8) {
	case 0, 1:
		i := p.pick(6) - p.pick(2)
		p.say("at", short(l), i, p.keep(p.h.At(l, i)))
	case 2:
		i, d := p.pick(6)-p.pick(2), p.any()
		p.say("put", short(l), i, short(d), fault(p.t, p.h.Put(l, i, d)))
	case 3, 4:
		from, to, most := p.pick(4)-p.pick(2), p.pick(6), p.pick(9)-1
		if p.pick(2) == 0 {
			most = -1
		}
		p.say("slice", short(l), from, to, most, p.keep(p.h.Slice(l, from, to, most)))
	case 5, 6:
		a := p.some(4)
		p.say("append", short(l), shorts(a), p.keep(p.h.Append(l, a...)))
	default:
		from := p.of(api.KList)
		n, err := p.h.Copy(l, from)
		p.say("copy", short(l), short(from), n, fault(p.t, err))
	}
}

func (p *player) maps() {
	m, k := p.of(api.KMap), p.any()
	switch p.pick(6) {
	case 0, 1, 2:
		v := p.any()
		p.say("lay", short(m), short(k), short(v), fault(p.t, p.h.Lay(m, k, v)))
	case 3:
		p.say("get", short(m), short(k), got(p.t, p.h, m, k))
	case 4:
		p.say("drop", short(m), short(k), fault(p.t, p.h.Drop(m, k)))
	default:
		p.say("keys", short(m), entries(p.h, m))
	}
}

func (p *player) others() {
	switch p.pick(10) {
	case 0:
		f := p.of(api.KFunc)
		p.say("called", short(f), called(p.h, f))
	case 1:
		n := p.number()
		d, is := p.h.Open(n)
		if is {
			p.data = append(p.data, d)
		}
		p.say("open", n, short(d), is)
	case 2, 3:
		n, d := p.number(), p.any()
		p.say("set", n, short(d), p.h.Set(n, d))
	case 4:
		n := p.number()
		p.say("free", n, p.h.Free(n))
	case 5:
		n := p.number()
		p.say("leads", n, len(p.h.Leads(n)), p.h.Leads(n))
	case 6:
		p.say("things", len(p.h.Things()), p.h.Things())
	default:
		d := p.any()
		p.say("show", short(d), p.h.Show(p.known, d))
	}
}

// played are a heap and the model with which the same was done: they tell the same.
func played(t testing.TB, steps int, known *types.Table, picks func() func(n int) int) string {
	t.Helper()
	var logs [3]string
	for i, h := range []store{heap.New(), &model{}, heap.New()} {
		p := &player{h: h, pick: picks(), known: known, data: slices.Concat(leadless(), nils()), t: t}
		for range steps {
			p.play()
		}
		p.say("behind", dump(t, h))
		for _, d := range p.data[max(0, len(p.data)-30):] {
			p.say("shown", h.Show(known, d))
		}
		logs[i] = p.log.String()
	}
	if logs[0] != logs[1] {
		t.Fatalf("unlike the model: %s", firstUnlike(logs[0], logs[1]))
	}
	if logs[0] != logs[2] {
		t.Fatalf("P10.11: of two heaps with which the same was done: %s", firstUnlike(logs[0], logs[2]))
	}
	return logs[0]
}

func firstUnlike(a, b string) string {
	one, two := strings.Split(a, "\n"), strings.Split(b, "\n")
	for i := range min(len(one), len(two)) {
		if one[i] != two[i] {
			return fmt.Sprintf("behind\n%s\nit is %q, must be %q", strings.Join(one[max(0, i-12):i], "\n"), one[i], two[i])
		}
	}
	return "one ends ahead of the other"
}

func TestByChance(t *testing.T) {
	known := table(t, declared)
	counts := map[string]int{}
	for seed := range uint64(150) {
		log := played(t, 300, known, func() func(n int) int { return dice(seed).IntN })
		for line := range strings.SplitSeq(log, "\n") {
			what, more, _ := strings.Cut(line, " ")
			counts[what]++
			for _, word := range []string{"wrong", "nil pointer", "nil field", "conversion", "count", "index", "slice", "nil map", "key", "*"} {
				if strings.HasSuffix(more, word) || strings.Contains(more, " "+word+" ") || strings.Contains(more, " "+word) && word == "*" {
					counts[what+": "+word]++
				}
			}
			for _, word := range []string{"..", "?", "&"} {
				if what == "show" && strings.Contains(more, word) {
					counts[what+": "+word]++
				}
			}
		}
	}
	for _, what := range []string{"object", "list", "map", "box", "func", "read", "write", "part", "at", "put", "slice", "append", "copy", "lay", "get", "drop", "keys", "called", "open", "set", "free", "leads", "things", "show",
		"read: nil pointer", "read: wrong", "write: conversion", "write: wrong", "write: count", "part: nil field", "part: wrong", "part: *", "at: index", "at: wrong", "slice: slice", "append: wrong", "lay: nil map", "lay: key", "get: key", "show: ?", "show: &", "show: .."} {
		if counts[what] < 20 {
			t.Errorf("%s came %d times by chance", what, counts[what])
		}
	}
}

// woven are things by chance that lead to one another, so many to so many, made in a heap: their data.
func woven(t *testing.T, h store, seed uint64) []api.Datum {
	t.Helper()
	r := dice(seed)
	count, most, loose := 2+r.IntN(10), oneOf(r, 1, 3, 8, 25), oneOf(r, 4, 30, 30)
	var kinds, sizes []int
	for range count {
		kinds = append(kinds, oneOf(r, api.KList, api.KMap, api.KPointer, api.KList, api.KMap, api.KPointer, api.KFunc))
		sizes = append(sizes, 1+r.IntN(most))
	}
	lead := func() api.Datum {
		n := r.IntN(count + 1)
		if r.IntN(loose) == 0 || n == 0 {
			return oneOf(r, append(leadless(), nils()...)...)
		}
		switch kinds[n-1] {
		case api.KList:
			from := r.IntN(sizes[n-1])
			room := sizes[n-1] - from + r.IntN(10)/9 // some do not fit
			return typed(oneOf(r, "list", "list", "L"), piece(n, from, r.IntN(room+1), room))
		case api.KMap:
			return typed(oneOf(r, "map", "M"), mapping(n))
		case api.KFunc:
			return typed(oneOf(r, "func", "F"), function(n))
		}
		if r.IntN(3) == 0 {
			return typed("U", pointer(n, 1))
		}
		return pointer(n)
	}
	var out []api.Datum
	for i, kind := range kinds {
		some := func() []api.Datum {
			var out []api.Datum
			for range sizes[i] {
				out = append(out, oneOf(r, lead(), record(lead(), lead())))
			}
			return out
		}
		var d api.Datum
		var err error
		switch kind {
		case api.KList:
			d, err = h.List(some())
		case api.KMap:
			d = h.Map()
			for _, v := range some() {
				h.Lay(d, lead(), v) // some are no keys
			}
		case api.KPointer:
			d, err = h.Object(record(append([]api.Datum{lead(), typed("U", record(lead()))}, some()...)...))
		default:
			d, err = h.Func(1, nil, some())
		}
		must(t, err)
		out = append(out, d, record(d), lead())
	}
	return out
}

func TestShownByChance(t *testing.T) {
	known := table(t, declared)
	counts := map[string]int{}
	for seed := range uint64(100) {
		h, m := heap.New(), &model{}
		woven(t, m, seed)
		for _, d := range woven(t, h, seed) {
			got, want := h.Show(known, d), m.Show(known, d)
			if got != want {
				at := 0
				for got[:at+1] == want[:at+1] {
					at++
				}
				t.Fatalf("P10.9: of the seed %d: %s is shown, behind %d bytes, as %.60q, must be %.60q", seed, short(d), at, got[at:], want[at:])
			}
			if len(got) > api.MaxText {
				counts["cut"]++
			}
			for _, word := range []string{"..", "?", "&", "&..", "map{", "L(", "M(", "F(func)", "nil(*"} {
				if strings.Contains(got, word) {
					counts[word]++
				}
			}
		}
	}
	for _, what := range []string{"cut", "..", "?", "&", "&..", "map{", "L(", "M(", "F(func)", "nil(*"} {
		if counts[what] < 20 {
			t.Errorf("%s came %d times by chance", what, counts[what])
		}
	}
}

// What bytes say is done: any bytes are doings.
func FuzzHeap(f *testing.F) {
	f.Add([]byte{1, 0, 1, 2, 1, 2, 3, 1, 3, 5, 18, 9, 1, 1, 9, 9})
	f.Add([]byte("objects and lists, maps and variables, made and read and written, shown and forgotten"))
	known := table(f, declared)
	f.Fuzz(func(t *testing.T, data []byte) {
		picks := func() func(n int) int {
			left := data
			return func(n int) int {
				if len(left) == 0 {
					return 0
				}
				got := int(left[0])
				left = left[1:]
				return got % n
			}
		}
		played(t, min(len(data)/3, 1000), known, picks)
	})
}
