package heap_test

import (
	"errors"
	"fmt"
	"slices"
	"strings"
	"testing"
	"unsafe"

	"guise/api"
	"guise/heap"
	"guise/value"
)

// writable is a text whose bytes can be written over.
func writable(s string, kept *[][]byte) string {
	if s == "" {
		return ""
	}
	own := []byte(s)
	*kept = append(*kept, own)
	return unsafe.String(&own[0], len(own))
}

// roomy is a datum of memory of its own, with spare room behind all its lists, in which something stands.
func roomy(d api.Datum, kept *[][]byte) api.Datum {
	d.Type, d.S = writable(d.Type, kept), writable(d.S, kept)
	path := append(make([]int, 0, len(d.Ref.Path)+3), d.Ref.Path...)
	copy(path[len(path):cap(path)], []int{91, 92, 93})
	d.Ref.Path = path
	d.Items = roomyList(d.Items, kept)
	return d
}

func roomyList(l []api.Datum, kept *[][]byte) []api.Datum {
	out := append(make([]api.Datum, 0, len(l)+2), l...)
	for i := range out {
		out[i] = roomy(out[i], kept)
	}
	copy(out[len(out):cap(out)], []api.Datum{integer(94), text("95")})
	return out
}

// good writes a datum with all that is in it.
func good(d api.Datum) string { return fmt.Sprintf("%+v", d) }

// whole writes a datum with what stands behind its lists.
func whole(d api.Datum) string {
	d.Ref.Path = d.Ref.Path[:cap(d.Ref.Path)]
	items := d.Items
	d.Items = nil
	return good(d) + wholeList(items)
}

func wholeList(l []api.Datum) string {
	var out []string
	for _, d := range l[:cap(l)] {
		out = append(out, whole(d))
	}
	return "{" + strings.Join(out, ", ") + "}"
}

// wipe writes over all that a datum leads to, but its texts.
func wipe(d api.Datum) {
	for i := range d.Ref.Path[:cap(d.Ref.Path)] {
		d.Ref.Path[:cap(d.Ref.Path)][i] = -99
	}
	wipeList(d.Items)
}

func wipeList(l []api.Datum) {
	for i, item := range l[:cap(l)] {
		wipe(item)
		l[:cap(l)][i] = integer(-99)
	}
}

func wipeBytes(kept [][]byte) {
	for _, own := range kept {
		for i := range own {
			own[i] = '#'
		}
	}
}

// wipeText writes over an answer's own texts: nobody else has them.
func wipeText(d api.Datum) {
	for _, s := range []string{d.Type, d.S} {
		wipeString(s)
	}
	for _, item := range d.Items {
		wipeText(item)
	}
}

func wipeString(s string) {
	if s != "" {
		clear(unsafe.Slice(unsafe.StringData(s), len(s)))
	}
}

// spoil writes over an answer, its texts, its lists and their spare room.
func spoil(d api.Datum) {
	wipeText(d)
	wipe(d)
	_ = append(d.Items, integer(-98))
	_ = append(d.Ref.Path, -97)
}

// wantEmptyBehind: in spare room stands nothing of anybody's.
func wantEmptyBehind(t *testing.T, l ...api.Datum) {
	t.Helper()
	for _, d := range l {
		for _, n := range d.Ref.Path[len(d.Ref.Path):cap(d.Ref.Path)] {
			if n != 0 {
				t.Errorf("P3: behind a path stands %d", n)
			}
		}
		for _, item := range d.Items[len(d.Items):cap(d.Items)] {
			if good(item) != good(none) {
				t.Errorf("P3: behind items stands %s", good(item))
			}
		}
		wantEmptyBehind(t, d.Items...)
	}
	for _, d := range l[len(l):cap(l)] {
		if good(d) != good(none) {
			t.Errorf("P3: behind a list stands %s", good(d))
		}
	}
}

// rich are structs with lists and texts in them.
func rich() []api.Datum {
	return []api.Datum{record(integer(1), text("xyz")), record(record(pointer(1, 2, 3), text("u")), typed("Name", integer(5)), none), within(20, pointer(5, 0, 29)), times(5, record(pointer(1, 2, 3))), typed("U", record(typed("V", record(text("inner"))), typed("Lists", list(1, 1))))}
}

// handing are all calls to which data are handed in, with what the heap must have then.
func handing() map[string]func(h store, d api.Datum) error {
	return map[string]func(h store, d api.Datum) error{
		"Object": func(h store, d api.Datum) error { _, err := h.Object(d); return err },
		"List":   func(h store, d api.Datum) error { _, err := h.List([]api.Datum{d, none, d}); return err },
		"Box":    func(h store, d api.Datum) error { _, err := h.Box(d); return err },
		"Func":   func(h store, d api.Datum) error { _, err := h.Func(1, nil, []api.Datum{d, d}); return err },
		"Write": func(h store, d api.Datum) error {
			p, err := h.Object(typed(d.Type, record()))
			return errors.Join(err, h.Write(p, d))
		},
		"Write of a part": func(h store, d api.Datum) error {
			p, err := h.Object(record(none, typed(d.Type, record())))
			q, wrong := h.Part(p, 1, d.Type)
			return errors.Join(err, wrong, h.Write(q, d))
		},
		"Set": func(h store, d api.Datum) error {
			n, err := h.Box(none)
			h.Set(n, d)
			return err
		},
		"Put":              func(h store, d api.Datum) error { return h.Put(list(zooArray, 5), 2, d) },
		"Append with room": func(h store, d api.Datum) error { _, err := h.Append(piece(zooArray, 0, 1, 5), d, d); return err },
		"Append":           func(h store, d api.Datum) error { _, err := h.Append(list(zooArray, 5), d, d); return err },
		"Lay of a value":   func(h store, d api.Datum) error { return h.Lay(mapping(zooMap), integer(5), d) },
		"Lay of a key":     func(h store, d api.Datum) error { return h.Lay(mapping(zooMap), record(nan, d), none) },
		"Lay anew": func(h store, d api.Datum) error {
			return errors.Join(h.Lay(mapping(zooMap), integer(1), d), h.Lay(mapping(zooMap), integer(1), d))
		},
		"Get":  func(h store, d api.Datum) error { _, _, err := h.Get(mapping(zooMap), record(nan, d)); return err },
		"Drop": func(h store, d api.Datum) error { return h.Drop(mapping(zooMap), record(nan, d)) },
	}
}

// What is handed in is not changed, nor what stands behind it; and it is not kept.
func TestNothingIsChangedOrKept(t *testing.T) {
	for name, call := range handing() {
		for _, d := range rich() {
			h, control := newZoo(t), newZoo(t)
			must(t, call(control, d))
			want := dump(t, control)
			var kept [][]byte
			handed := roomy(d, &kept)
			was := whole(handed)
			must(t, call(h, handed))
			if now := whole(handed); now != was {
				t.Fatalf("P10.11: what was handed to %s is %s, was %s", name, now, was)
			}
			is(t, "P10.11: behind "+name, dump(t, h), want)
			wipe(handed)
			wipeBytes(kept)
			is(t, "P10.11: what was handed to "+name+" was written over", dump(t, h), want)
		}
	}
}

// Lists that are handed in, too: their elements, and what stands behind them.
func TestListsAreNotKept(t *testing.T) {
	for name, call := range map[string]func(h store, l []api.Datum, boxes []int) error{
		"List": func(h store, l []api.Datum, boxes []int) error { _, err := h.List(l); return err },
		"Func": func(h store, l []api.Datum, boxes []int) error { _, err := h.Func(1, boxes, l); return err },
		"Append": func(h store, l []api.Datum, boxes []int) error {
			_, err := h.Append(list(zooArray, 5), l...)
			return err
		},
		"Append with room": func(h store, l []api.Datum, boxes []int) error {
			_, err := h.Append(piece(zooArray, 0, 0, 5), l...)
			return err
		},
		"Append to none": func(h store, l []api.Datum, boxes []int) error { _, err := h.Append(list(0, 0), l...); return err },
	} {
		h, control := newZoo(t), newZoo(t)
		must(t, call(control, rich()[:3], []int{zooVariable, zooVariable}))
		want := dump(t, control)
		var kept [][]byte
		l, boxes := roomyList(rich()[:3], &kept), append(make([]int, 0, 9), zooVariable, zooVariable, 95)
		was := wholeList(l)
		must(t, call(h, l, boxes[:2]))
		if wholeList(l) != was || fmt.Sprint(boxes) != "[4 4 95]" {
			t.Errorf("P10.11: what was handed to %s is %s, was %s; %v", name, wholeList(l), was, boxes)
		}
		clear(boxes)
		wipeList(l)
		wipeBytes(kept)
		is(t, "P10.11: the lists that were handed to "+name+" were written over", dump(t, h), want)
	}
}

// What is read is neither changed nor kept: pointers and lists whose Path and Type are written over.
func TestWhatIsReadIsNotKept(t *testing.T) {
	h := newZoo(t)
	known := table(t, declared)
	for kind, reads := range reading() {
		for name, call := range reads {
			for _, d := range append(fitting(kind), unfit(kind)...) {
				control := newZoo(t)
				want := call(t, control, d)
				wantDump := dump(t, control)
				h := newZoo(t)
				var kept [][]byte
				handed := roomy(d, &kept)
				was := whole(handed)
				is(t, name, call(t, h, handed), want)
				if whole(handed) != was {
					t.Errorf("P10.11: what was handed to %s is %s, was %s", name, whole(handed), was)
				}
				wipe(handed)
				wipeBytes(kept)
				is(t, "P10.11: behind "+name, dump(t, h), wantDump)
			}
		}
	}
	for _, d := range slices.Concat(rich(), fitting(api.KPointer), fitting(api.KList), fitting(api.KMap), fitting(api.KFunc)) {
		var kept [][]byte
		handed := roomy(d, &kept)
		was := whole(handed)
		shown := h.Show(known, handed)
		if whole(handed) != was {
			t.Errorf("P10.11: what was handed to Show is %s, was %s", whole(handed), was)
		}
		wipe(handed)
		wipeBytes(kept)
		want := h.Show(known, d)
		is(t, "P10.11: what was shown", shown, want)
		wipeString(shown)
		is(t, "P10.11: what was shown was written over", h.Show(known, d), want)
	}
}

// Answers share no memory with what was handed in: pieces and parts of it, and faults' words.
func TestAnswersOfArguments(t *testing.T) {
	for name, call := range map[string]func(h store, kept *[][]byte) string{
		"Object": func(h store, kept *[][]byte) string {
			d := roomy(typed("U", record()), kept)
			p, err := h.Object(d)
			wipeBytes(*kept)
			return says(t, p, err)
		},
		"Part": func(h store, kept *[][]byte) string {
			p := roomy(typed("U", pointer(zooObject, 1)), kept)
			q, err := h.Part(p, 1, writable("V", kept))
			wipeBytes(*kept)
			wipe(p)
			return says(t, q, err)
		},
		"Part of none": func(h store, kept *[][]byte) string {
			_, err := h.Part(pointer(0), 1, writable("name", kept))
			wipeBytes(*kept)
			return fault(t, err)
		},
		"Write": func(h store, kept *[][]byte) string {
			err := h.Write(roomy(pointer(zooObject), kept), roomy(typed("Other", pointer(1)), kept))
			wipeBytes(*kept)
			return fault(t, err)
		},
		"Slice": func(h store, kept *[][]byte) string {
			l, err := h.Slice(roomy(typed("Lists", list(zooArray, 5)), kept), 1, 2, 3)
			wipeBytes(*kept)
			return says(t, l, err)
		},
		"Append of none": func(h store, kept *[][]byte) string {
			l, err := h.Append(roomy(typed("Lists", list(zooArray, 5)), kept))
			wipeBytes(*kept)
			return says(t, l, err)
		},
		"Append with room": func(h store, kept *[][]byte) string {
			l, err := h.Append(roomy(typed("Lists", piece(zooArray, 1, 1, 2)), kept), none)
			wipeBytes(*kept)
			return says(t, l, err)
		},
		"Append": func(h store, kept *[][]byte) string {
			l, err := h.Append(roomy(typed("Lists", list(zooArray, 5)), kept), none)
			wipeBytes(*kept)
			return says(t, l, err)
		},
		"Get": func(h store, kept *[][]byte) string {
			_, _, err := h.Get(mapping(0), roomy(typed("Lists", list(0, 0)), kept))
			wipeBytes(*kept)
			return fault(t, err)
		},
	} {
		h := newZoo(t)
		want := map[string]string{"Object": "*U@9", "Part": "*V@1.1.1", "Part of none": "nil field name", "Write": "conversion *Other is not T", "Slice": "Lists@2[1:2:3]", "Append of none": "Lists@2[0:5:5]", "Append with room": "Lists@2[1:3:3]", "Append": "Lists@9[0:6:10]", "Get": "key Lists"}[name]
		is(t, "P10.11: "+name, call(h, new([][]byte)), want)
	}
}

// full is a heap with things that have lists and texts in them.
func full(t *testing.T) *heap.Heap {
	t.Helper()
	h := newZoo(t)
	for _, d := range rich() {
		for _, name := range []string{"Object", "List", "Box", "Func", "Write of a part", "Lay of a value", "Lay of a key"} {
			must(t, handing()[name](h, d))
		}
	}
	return h
}

// What comes out is its owner's: whoever writes over it changes neither the heap nor another answer, nor what is told later.
func TestAnswersAreNew(t *testing.T) {
	h := full(t)
	known := table(t, declared)
	was := dump(t, h)
	twice := func(name string, call func() []api.Datum) {
		t.Helper()
		first, second := call(), call()
		want := shorts(second)
		is(t, "P4: "+name+" again", shorts(first), want)
		for i := range first {
			wantEmptyBehind(t, first[i])
			spoil(first[i])
			if shorts(first[i+1:]) != shorts(second[i+1:]) {
				t.Fatalf("P3: two of one answer of %s share memory", name)
			}
		}
		is(t, "P10.11: another answer of "+name, shorts(second), want)
		for _, d := range second {
			spoil(d)
		}
		is(t, "P10.11: behind "+name, dump(t, h), was)
	}
	one := func(d api.Datum, err error) []api.Datum {
		must(t, err)
		return []api.Datum{d}
	}
	for _, n := range h.Things() {
		for _, name := range typeNames {
			if _, err := h.Read(typed(name, pointer(n))); err == nil {
				twice("Read", func() []api.Datum { d, err := h.Read(typed(name, pointer(n))); return one(d, err) })
			}
		}
		if _, is := h.Open(n); is {
			twice("Open", func() []api.Datum { d, _ := h.Open(n); return []api.Datum{d} })
		}
		if _, err := h.At(list(n, 1), 0); err == nil {
			twice("At", func() []api.Datum { d, err := h.At(list(n, 1), 0); return one(d, err) })
		}
		if h.Size(mapping(n)) > 0 {
			twice("Keys", func() []api.Datum {
				keys, values := h.Keys(mapping(n))
				wantEmptyBehind(t, keys...)
				return slices.Concat(keys, values)
			})
			twice("Get", func() []api.Datum { d, _, err := h.Get(mapping(n), integer(5)); return one(d, err) })
		}
		if _, _, _, is := h.Called(function(n)); is {
			twice("Called", func() []api.Datum { _, _, bound, _ := h.Called(function(n)); return bound })
		}
	}
	twice("Part", func() []api.Datum {
		d, err := h.Part(typed("U", pointer(zooObject, 1)), 1, "V")
		return one(d, err)
	})
	twice("Slice", func() []api.Datum { d, err := h.Slice(typed("L", list(zooArray, 5)), 1, 2, 3); return one(d, err) })
	twice("Append of none", func() []api.Datum { d, err := h.Append(typed("L", list(zooArray, 5))); return one(d, err) })
	wipeString(h.Show(known, pointer(zooObject)))
	is(t, "P10.11: behind Show", dump(t, h), was)
}

// What is made new is told in new memory, too.
func TestMadeIsNew(t *testing.T) {
	h, control := newZoo(t), newZoo(t)
	for _, h := range []store{control, h} {
		p, err := h.Object(typed("U", record()))
		must(t, err)
		l, err := h.List(integers(1))
		must(t, err)
		m := h.Map()
		f, err := h.Func(1, nil, nil)
		must(t, err)
		a, err := h.Append(typed("L", l), none)
		must(t, err)
		b, err := h.Append(typed("L", piece(zooArray, 0, 0, 5)), none)
		must(t, err)
		if h != store(control) {
			for _, d := range []api.Datum{p, l, m, f, a, b} {
				spoil(d)
			}
		}
	}
	is(t, "P10.11: behind what was made", dump(t, h), dump(t, control))
	if d := h.Map(); short(d) != "map@14" {
		t.Errorf("P10.11: Map: %s", short(d))
	}
}

// Lists of numbers are new, too.
func TestNumbersAreNew(t *testing.T) {
	h := full(t)
	was := dump(t, h)
	f, err := h.Func(1, []int{zooVariable, zooVariable, zooVariable}, nil)
	must(t, err)
	_, boxes, _, _ := h.Called(f)
	things := h.Things()
	for _, l := range [][]int{boxes, things, h.Leads(zooMap)} {
		for i := range l[:cap(l)] {
			l[:cap(l)][i] = -9
		}
		_ = append(l, -8)
	}
	is(t, "P10.11: Called", called(h, f), "1 [4 4 4] [] true")
	h.Free(f.Ref.Object)
	is(t, "P10.11: behind lists of numbers", dump(t, h), was)
}

// Within one answer no two lists share memory, also where what was handed in does.
func TestNoListTwice(t *testing.T) {
	shared := record(pointer(1, 2, 3), record(none))
	want := good(shared)
	h := heap.New()
	p, err := h.Object(times(5, shared))
	must(t, err)
	l, err := h.List(times(5, shared).Items)
	must(t, err)
	f, err := h.Func(1, nil, times(5, shared).Items)
	must(t, err)
	out, err := h.Read(p)
	must(t, err)
	_, _, bound, _ := h.Called(f)
	for _, l := range [][]api.Datum{out.Items, bound} {
		for i := range l {
			wipe(l[i])
			for _, later := range l[i+1:] {
				if good(later) != want {
					t.Fatalf("P3: %s, must be %s", good(later), want)
				}
			}
		}
	}
	_, err = h.Copy(l, l)
	must(t, err)
	a, err := h.At(l, 0)
	must(t, err)
	b, err := h.At(l, 1)
	must(t, err)
	spoil(a)
	if !value.Same(b, shared) {
		t.Errorf("P3: %s, must be %s", good(b), want)
	}
}

// Elements that were copied from one place to another are two: what is written into one is not seen in the other.
func TestCopiesAreApart(t *testing.T) {
	h := heap.New()
	l, err := h.List([]api.Datum{record(record(integer(1))), none, none})
	must(t, err)
	q, err := h.Slice(l, 1, 3, -1)
	must(t, err)
	_, err = h.Copy(q, l)
	must(t, err)
	longer, err := h.Append(l, integer(1))
	must(t, err)
	must(t, h.Put(l, 0, none))
	is(t, "P10.12: the copies", elements(t, h, l)+", "+elements(t, h, longer), "nil T{T{1}} nil, T{T{1}} T{T{1}} nil 1")
	d, err := h.At(l, 1)
	must(t, err)
	p, err := h.Object(d)
	must(t, err)
	part, err := h.Part(p, 0, "T")
	must(t, err)
	must(t, h.Write(part, record(text("new"))))
	is(t, "P10.12: the copies", elements(t, h, l)+", "+elements(t, h, longer), "nil T{T{1}} nil, T{T{1}} T{T{1}} nil 1")
}

// Each error is a new one, that its owner may write over.
func TestErrorsAreNew(t *testing.T) {
	h := newZoo(t)
	for name, call := range map[string]func() error{
		"Read":        func() error { _, err := h.Read(pointer(zooGone)); return err },
		"At":          func() error { _, err := h.At(list(zooGone, 0), 0); return err },
		"Get":         func() error { _, _, err := h.Get(mapping(zooGone), none); return err },
		"List":        func() error { _, err := h.List([]api.Datum{boolean(2)}); return err },
		"Func":        func() error { _, err := h.Func(-1, nil, nil); return err },
		"nil pointer": func() error { _, err := h.Read(pointer(0)); return err },
		"nil field":   func() error { _, err := h.Part(pointer(0), 0, "x"); return err },
		"conversion":  func() error { return h.Write(pointer(zooObject), none) },
		"count":       func() error { return h.Write(pointer(zooObject, 3), sized(100)) },
		"index":       func() error { return h.Put(list(zooArray, 5), 5, none) },
		"slice":       func() error { _, err := h.Slice(list(zooArray, 5), 5, 4, 3); return err },
		"nil map":     func() error { return h.Lay(mapping(0), none, none) },
		"key":         func() error { return h.Lay(mapping(zooMap), list(0, 0), none) },
		"key of none": func() error { return h.Drop(mapping(0), list(0, 0)) },
	} {
		first, other := call(), call()
		want := fault(t, other)
		if first == other || want == "" || fault(t, first) != want {
			t.Errorf("P2: %s: %v and %v are one", name, first, other)
		}
		switch e := first.(type) {
		case *api.Wrong:
			*e = api.Wrong{Code: api.ErrCode, At: 5, Name: "x"}
		case *api.Fault:
			*e = api.Fault{Word: "other", More: "words"}
		}
		if fault(t, other) != want || fault(t, call()) != want {
			t.Errorf("P2: %s: %s was written over", name, want)
		}
		var f *api.Fault
		var w *api.Wrong
		if err := call(); errors.As(err, &f) == errors.As(err, &w) {
			t.Errorf("P2: %s: %#v", name, err)
		}
	}
}

// Heaps know nothing of one another: what is done with one is not seen in the other, and each has its own numbers.
func TestBesideAnotherHeap(t *testing.T) {
	known := table(t, declared)
	a, b := newZoo(t), newZoo(t)
	was := dump(t, b)
	for name, call := range handing() {
		for _, d := range rich() {
			if err := call(a, d); err != nil {
				t.Fatalf("%s: %v", name, err)
			}
		}
	}
	is(t, "P10.11: the other heap", dump(t, b), was)
	for _, n := range a.Things() {
		a.Free(n)
	}
	is(t, "P10.11: the other heap", dump(t, b), was)
	is(t, "P10.11: Show", b.Show(known, list(zooArray, 5))+a.Show(known, list(zooArray, 5)), "[10, 11, 12, 13, 14]?")
	if n, _ := b.Box(none); n != zooNext {
		t.Errorf("P10.11: the other heap's next number is %d", n)
	}
	// Data of one heap mean, in another one, that one's things.
	c := heap.New()
	c.Map()
	l, err := c.List(integers(1, 2))
	must(t, err)
	is(t, "P10.11: a list of another heap", elements(t, b, l), "10 11")
	_, err = c.Read(pointer(zooObject))
	is(t, "P10.11: a pointer of another heap", fault(t, err), "wrong")
}
