package heap_test

import (
	"fmt"
	"slices"
	"strings"
	"testing"

	"guise/api"
	"guise/heap"
	"guise/value"
)

// lived is a heap with which something was done by chance, and who did it.
func lived(t *testing.T, seed uint64, steps int) *player {
	t.Helper()
	p := &player{h: heap.New(), pick: dice(seed).IntN, known: table(t, declared), data: slices.Concat(leadless(), nils()), t: t}
	for range steps {
		p.play()
	}
	return p
}

// What was read, shown or handed in stays as it was, whatever is written afterwards.
func TestStructsAreValues(t *testing.T) {
	for seed := range uint64(40) {
		p := lived(t, seed, 150)
		var was, shown []string
		seen := slices.Clone(p.data)
		for _, d := range seen {
			was = append(was, good(d))
			shown = append(shown, p.h.Show(p.known, d))
		}
		wasShown := strings.Join(shown, " ")
		for range 150 {
			p.play()
		}
		for i, d := range seen {
			if good(d) != was[i] {
				t.Fatalf("P10.12: %s, was %s", good(d), was[i])
			}
		}
		if strings.Join(shown, " ") != wasShown {
			t.Fatal("P10.12: what was shown has changed")
		}
	}
	h := heap.New()
	inner := record(integer(1))
	d := record(inner, text("a"))
	p, err := h.Object(d)
	must(t, err)
	read, err := h.Read(p)
	must(t, err)
	part, err := h.Part(p, 0, "T")
	must(t, err)
	readPart, err := h.Read(part)
	must(t, err)
	must(t, h.Write(part, record(integer(2))))
	read2, err := h.Read(p)
	must(t, err)
	must(t, h.Write(p, record()))
	is(t, "P10.12", short(d)+short(read)+short(readPart)+short(read2), `T{T{1} "a"}T{T{1} "a"}T{1}T{T{2} "a"}`)
}

// An object that is a copy of another one's struct is written by itself.
func TestObjectsOfOneStruct(t *testing.T) {
	h := heap.New()
	d := record(record(integer(1)), record(integer(2)))
	a, err := h.Object(d)
	must(t, err)
	read, err := h.Read(a)
	must(t, err)
	b, err := h.Object(read)
	must(t, err)
	n, err := h.Box(read)
	must(t, err)
	l, err := h.List([]api.Datum{read, read})
	must(t, err)
	must(t, h.Write(pointer(a.Ref.Object, 1), record(text("a"))))
	must(t, h.Write(pointer(b.Ref.Object, 0), record(text("b"))))
	must(t, h.Put(l, 0, none))
	box, _ := h.Open(n)
	x, _ := h.Read(a)
	y, _ := h.Read(b)
	is(t, "P10.12", short(x)+short(y)+short(box)+elements(t, h, l), `T{T{1} T{"a"}}T{T{"b"} T{2}}T{T{1} T{2}}nil T{T{1} T{2}}`)
}

// What is put into a list is seen through every list whose piece has that element, and through no other one.
func TestPieces(t *testing.T) {
	const n = 6
	h := heap.New()
	held := map[int][]api.Datum{}
	var pieces []api.Datum
	for object := 1; object < 3; object++ {
		held[object] = integers(0, 1, 2, 3, 4, 5)
		_, err := h.List(held[object])
		must(t, err)
		for from := range n + 1 {
			for length := range n + 1 - from {
				pieces = append(pieces, piece(object, from, length, n-from), piece(object, from, length, length))
			}
		}
	}
	check := func(what string) {
		t.Helper()
		for _, q := range pieces {
			want := shorts(held[q.Ref.Object][q.Ref.From:][:q.Ref.Len])
			is(t, "P10.13: behind "+what+": "+short(q), "["+elements(t, h, q)+"]", want)
		}
		if t.Failed() {
			t.FailNow()
		}
	}
	check("List")
	next := 100
	for _, q := range pieces {
		for i := range q.Ref.Len {
			next++
			must(t, h.Put(q, i, integer(next)))
			held[q.Ref.Object][q.Ref.From+i] = integer(next)
		}
		check("Put into " + short(q))
	}
	for _, q := range pieces {
		for count := range 4 {
			var a []api.Datum
			for range count {
				next++
				a = append(a, integer(next))
			}
			longer, err := h.Append(q, a...)
			must(t, err)
			if end := q.Ref.Len + count; end <= q.Ref.Cap {
				copy(held[q.Ref.Object][q.Ref.From+q.Ref.Len:], a)
				if longer.Ref.Object != q.Ref.Object {
					t.Fatalf("P10.13: Append with room made an array: %s of %s", short(longer), short(q))
				}
			} else {
				is(t, "P10.13: the new array", "["+elements(t, h, longer)+"]", shorts(slices.Concat(held[q.Ref.Object][q.Ref.From:][:q.Ref.Len], a)))
				must(t, h.Put(longer, 0, text("mine")))
			}
			check(fmt.Sprintf("Append of %d to %s", count, short(q)))
		}
	}
}

// Pieces of pieces, by chance: each list tells what a piece of Go's own tells.
func TestPiecesByChance(t *testing.T) {
	for seed := range uint64(60) {
		r, h := dice(seed), heap.New()
		type both struct {
			l   api.Datum
			own []int
		}
		all := []both{{list(0, 0), nil}}
		last := 0
		for range 120 {
			b := oneOf(r, all...)
			switch r.IntN(4) {
			case 0:
				if len(b.own) > 0 {
					i := r.IntN(len(b.own))
					last++
					b.own[i] = last
					must(t, h.Put(b.l, i, integer(last)))
				}
			case 1:
				if cap(b.own) > 0 {
					most := r.IntN(cap(b.own) + 1)
					to := r.IntN(most + 1)
					from := r.IntN(to + 1)
					l, err := h.Slice(b.l, from, to, most)
					must(t, err)
					all = append(all, both{l, b.own[from:to:most]})
				}
			case 2:
				var a []int
				for range 1 + r.IntN(4) {
					last++
					a = append(a, last)
				}
				l, err := h.Append(b.l, integers(a...)...)
				must(t, err)
				own := b.own
				if len(own)+len(a) > cap(own) {
					own = append(make([]int, 0, max(2*cap(own), len(own)+len(a))), own...)
				}
				all = append(all, both{l, append(own, a...)})
			case 3:
				from := oneOf(r, all...)
				n, err := h.Copy(b.l, from.l)
				if n != copy(b.own, from.own) || err != nil {
					t.Fatalf("P10.6: Copy: %d, %v", n, err)
				}
			}
			for _, b := range all {
				var want []api.Datum
				for _, n := range b.own {
					if n > 0 {
						want = append(want, integer(n))
					} else {
						want = append(want, none) // room that nobody has filled
					}
				}
				if "["+elements(t, h, b.l)+"]" != shorts(want) || b.l.Ref.Cap != cap(b.own) || b.l.Ref.Len != len(b.own) {
					t.Fatalf("P10.13: %s is %s, must be %v", short(b.l), elements(t, h, b.l), b.own)
				}
			}
		}
	}
}

// Read of Part is the Item; behind a Write there the whole is as it was, with that in its place.
func TestParts(t *testing.T) {
	parts, large := 0, 0
	for seed := range uint64(150) {
		p := lived(t, seed, 200)
		for _, q := range p.data {
			before, err := p.h.Read(q)
			if err != nil {
				continue
			}
			for f, item := range before.Items {
				part, err := p.h.Part(q, f, item.Type)
				if item.Kind != api.KStruct {
					is(t, "P10.2: Part that is no struct", fault(t, err), "wrong")
					continue
				}
				must(t, err)
				parts++
				got, err := p.h.Read(part)
				must(t, err)
				if !value.Same(got, item) {
					t.Fatalf("P10.14: Read(%s): %s, must be %s", short(part), short(got), short(item))
				}
				d := typed(item.Type, oneOf(dice(seed), record(), record(integer(parts)), sized(30), record(item, item), sized(70)))
				after := own(before)[0]
				if err := p.h.Write(part, d); err == nil {
					after.Items[f] = d
				} else {
					large++
					want := "wrong"
					if value.Right(d) {
						want = "count"
					}
					is(t, "P10.2: Write", fault(t, err)[:5], want)
				}
				now, err := p.h.Read(q)
				must(t, err)
				if !value.Same(now, after) {
					t.Fatalf("P10.14: behind Write(%s, %s) there is %s, must be %s", short(part), short(d), short(now), short(after))
				}
				before = now
			}
		}
	}
	if parts < 200 || large < 20 {
		t.Errorf("%d parts, %d too large, came by chance", parts, large)
	}
}

// Free of a thing to which none of some things leads changes no answer about these.
func TestFreeOfOthers(t *testing.T) {
	freed := 0
	for seed := range uint64(60) {
		p, r := lived(t, seed, 250), dice(seed+500)
		some := slices.DeleteFunc(p.h.Things(), func(int) bool { return r.IntN(3) == 0 })
		about := func() string {
			var out []string
			for _, n := range some {
				out = append(out, fmt.Sprint(n, held(t, p.h, n), p.h.Leads(n)))
			}
			return strings.Join(out, "\n")
		}
		was := about()
		for _, n := range p.h.Things() {
			if slices.Contains(some, n) || slices.ContainsFunc(some, func(s int) bool { return slices.Contains(p.h.Leads(s), n) }) {
				continue
			}
			things := p.h.Things()
			if !p.h.Free(n) {
				t.Fatalf("P10.10: Free(%d)", n)
			}
			freed++
			is(t, "P10.15", about(), was)
			is(t, "P10.10: Things", fmt.Sprint(p.h.Things()), fmt.Sprint(slices.DeleteFunc(things, func(m int) bool { return m == n })))
		}
	}
	if freed < 200 {
		t.Errorf("only %d were forgotten by chance", freed)
	}
}

// Of things that lead only to one another nothing changes, what is shown too, when all others are forgotten; and what is done with them goes on
// the same.
func TestFreeOfAllOthers(t *testing.T) {
	for seed := range uint64(40) {
		p, control := lived(t, seed, 250), lived(t, seed, 250)
		var reached []int
		left := []int{oneOf(dice(seed), p.h.Things()...), oneOf(dice(seed+1), p.h.Things()...)}
		for len(left) > 0 {
			n := left[0]
			left = left[1:]
			if slices.Contains(p.h.Things(), n) && !slices.Contains(reached, n) {
				reached = append(reached, n)
				left = append(left, p.h.Leads(n)...)
			}
		}
		slices.Sort(reached)
		for _, n := range p.h.Things() {
			if !slices.Contains(reached, n) {
				p.h.Free(n)
			}
		}
		is(t, "P10.15: Things", fmt.Sprint(p.h.Things()), fmt.Sprint(reached))
		for i := range 2 {
			for _, d := range p.data {
				if slices.Contains(reached, d.Ref.Object) {
					is(t, "P10.15: Show", p.h.Show(p.known, d), control.h.Show(p.known, d))
					if i == 0 && d.Kind == api.KList && d.Ref.Len > 0 {
						is(t, "P10.15: Put", fault(t, p.h.Put(d, 0, text("new"))), fault(t, control.h.Put(d, 0, text("new"))))
					}
				}
			}
			for _, n := range reached {
				is(t, "P10.15", held(t, p.h, n), held(t, control.h, n))
			}
		}
		if a, b := p.h.Map(), control.h.Map(); !value.Same(a, b) {
			t.Errorf("P10.1: the next number: %s, must be %s", short(a), short(b))
		}
	}
}
