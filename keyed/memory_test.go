package keyed_test

import (
	"errors"
	"fmt"
	"iter"
	"slices"
	"strings"
	"testing"
	"unsafe"

	"guise/api"
	"guise/keyed"
	"guise/value"
)

// writable is a text whose bytes can be written over.
func writable(s string, kept *[][]byte) string {
	if s == "" {
		return ""
	}
	own := []byte(s)
	*kept = append(*kept, own)
	return unsafe.String(&own[0], len(own))
}

// roomy is a datum of memory of its own, with spare room behind all its lists, in which something stands.
func roomy(d api.Datum, kept *[][]byte) api.Datum {
	d.Type, d.S = writable(d.Type, kept), writable(d.S, kept)
	path := append(make([]int, 0, len(d.Ref.Path)+3), d.Ref.Path...)
	copy(path[len(path):cap(path)], []int{91, 92, 93})
	d.Ref.Path = path
	items := append(make([]api.Datum, 0, len(d.Items)+2), d.Items...)
	for i := range items {
		items[i] = roomy(items[i], kept)
	}
	copy(items[len(items):cap(items)], []api.Datum{integer(94), text("95")})
	d.Items = items
	return d
}

// good writes a datum with all that is in it.
func good(d api.Datum) string { return fmt.Sprintf("%+v", d) }

// whole writes a datum with what stands behind its lists.
func whole(d api.Datum) string {
	d.Ref.Path = d.Ref.Path[:cap(d.Ref.Path)]
	items := d.Items[:cap(d.Items)]
	d.Items = nil
	out := good(d) + "{"
	for _, item := range items {
		out += whole(item) + ", "
	}
	return out + "}"
}

// wipe writes over all that a datum leads to.
func wipe(d api.Datum, kept [][]byte) {
	for _, own := range kept {
		for i := range own {
			own[i] = '#'
		}
	}
	for i := range d.Ref.Path[:cap(d.Ref.Path)] {
		d.Ref.Path[:cap(d.Ref.Path)][i] = -99
	}
	for i, item := range d.Items[:cap(d.Items)] {
		wipe(item, nil)
		d.Items[:cap(d.Items)][i] = integer(-99)
	}
}

// wipeText writes over an answer's own texts: nobody else has them.
func wipeText(d api.Datum) {
	for _, s := range []string{d.Type, d.S} {
		if s != "" {
			clear(unsafe.Slice(unsafe.StringData(s), len(s)))
		}
	}
	for _, item := range d.Items {
		wipeText(item)
	}
}

// spoil writes over an answer, its texts, its lists and their spare room.
func spoil(d api.Datum) {
	wipeText(d)
	wipe(d, nil)
	_ = append(d.Items, integer(-98))
	_ = append(d.Ref.Path, -97)
}

// lists are data with lists and texts in them.
func lists() []api.Datum {
	return []api.Datum{text("abc"), typed("Type", text("abc")), pointer(3, 1, 2), record(integer(1), text("xyz")), record(record(pointer(1, 2, 3), text("u")), typed("Name", integer(5)), none), within(20, pointer(5, 0, 29)), times(5, record(pointer(1, 2, 3)))}
}

// What is handed in is not changed, nor what stands behind it; and it is not kept.
func TestNothingIsChangedOrKept(t *testing.T) {
	for i, k := range slices.Concat(lists(), lost()) {
		for _, v := range slices.Concat(lists(), noKeys()) {
			m := filled(t, "1=a")
			found := i < len(lists())
			var kept [][]byte
			handedK, handedV := roomy(k, &kept), roomy(v, &kept)
			was := whole(handedK) + whole(handedV)
			put(t, m, handedK, handedV)
			if found {
				put(t, m, handedK, handedV)
				wantGet(t, m, handedK, v)
			} else {
				wantNone(t, m, handedK)
			}
			if now := whole(handedK) + whole(handedV); now != was {
				t.Fatalf("P3: what was handed in is %s, was %s", now, was)
			}
			wipe(handedK, kept)
			wipe(handedV, nil)
			wantAll(t, m, "1=a "+shortPair(k, v))
			if found {
				wantGet(t, m, k, v)
			}
			asked := roomy(k, &kept)
			was = whole(asked)
			drop(t, m, asked, found)
			if now := whole(asked); now != was {
				t.Fatalf("P3: what was handed to Drop is %s, was %s", now, was)
			}
		}
	}
}

// What Put lays under a key that is there already is not kept, either; nor what the others look for.
func TestPutAnewIsNotKept(t *testing.T) {
	var kept [][]byte
	m := keyed.New()
	k := record(text("k"), pointer(1, 2))
	put(t, m, k, none)
	again, v := roomy(k, &kept), roomy(record(text("v"), pointer(3, 4)), &kept)
	put(t, m, again, v)
	looked := roomy(k, &kept)
	wantGet(t, m, looked, v)
	wipe(again, kept)
	wipe(v, nil)
	wipe(looked, nil)
	wantGet(t, m, k, record(text("v"), pointer(3, 4)))
	wantAll(t, m, `T{"k", *T@1 0 0 0 [2]}=T{"v", *T@3 0 0 0 [4]}`)
}

// A key that its owner changes behind Put is found by what it was.
func TestChangedBehindPut(t *testing.T) {
	m := keyed.New()
	k := record(integer(1), record(text("a"), pointer(3, 1, 2)), none)
	was := good(k)
	put(t, m, k, k)
	k.Items[1].Items[1].Ref.Path[0] = 9
	k.Items[1].Items[0] = list(1, 1)
	k.Items[0].N = 7
	same := record(integer(1), record(text("a"), pointer(3, 1, 2)), none)
	wantGet(t, m, same, same)
	for k, v := range m.All() {
		if good(k) != was || good(v) != was {
			t.Errorf("P3: %s, %s", good(k), good(v))
		}
	}
	if _, _, err := m.Get(k); fault(t, err) != "key list" {
		t.Errorf("M2: %v", err)
	}
}

// wantEmptyBehind: in spare room stands nothing of anybody's.
func wantEmptyBehind(t *testing.T, d api.Datum) {
	t.Helper()
	for _, n := range d.Ref.Path[len(d.Ref.Path):cap(d.Ref.Path)] {
		if n != 0 {
			t.Errorf("P3: behind a path stands %d", n)
		}
	}
	for _, item := range d.Items[len(d.Items):cap(d.Items)] {
		if good(item) != good(none) {
			t.Errorf("P3: behind items stands %s", good(item))
		}
	}
	for _, item := range d.Items {
		wantEmptyBehind(t, item)
	}
}

// What comes out is its owner's: whoever writes over it changes neither the map nor another answer, nor what is told later.
func TestAnswersAreNew(t *testing.T) {
	fresh := func() *keyed.Map {
		m := keyed.New()
		for _, d := range lists() {
			d = roomy(d, new([][]byte))
			put(t, m, d, d)
			put(t, m, record(nan, d), record(d, d))
		}
		return m
	}
	m := fresh()
	was := all(t, m)
	check := func(what string) {
		t.Helper()
		if now := all(t, m); now != was {
			t.Fatalf("P3: behind %s there is %s, was %s", what, now, was)
		}
	}
	for _, d := range lists() {
		first, _, _ := m.Get(d)
		second, _, _ := m.Get(d)
		wantEmptyBehind(t, first)
		spoil(first)
		if !value.Same(second, d) {
			t.Fatalf("P3: %s, must be %s", good(second), good(d))
		}
		spoil(second)
		check("Get")
	}
	for _, seq := range []iter.Seq2[api.Datum, api.Datum]{m.All(), m.Walk()} {
		var out []string
		for k, v := range seq {
			out = append(out, shortPair(k, v))
			wantEmptyBehind(t, k)
			wantEmptyBehind(t, v)
			for other, held := range seq {
				spoil(other)
				spoil(held)
			}
			if shortPair(k, v) != out[len(out)-1] {
				t.Fatalf("P3: %s was %s", shortPair(k, v), out[len(out)-1])
			}
			held := good(v)
			spoil(k)
			if good(v) != held {
				t.Fatalf("P3: a key and its value share memory: %s was %s", good(v), held)
			}
			spoil(v)
		}
		if got := strings.Join(out, " "); got != was {
			t.Fatalf("P3: told is %s, must be %s", got, was)
		}
		check("a range")
	}
}

// Within one answer no two lists share memory, also where what was handed in does.
func TestNoListTwice(t *testing.T) {
	shared := record(pointer(1, 2, 3), record(none))
	m := keyed.New()
	put(t, m, integer(1), times(5, shared))
	out, _, _ := m.Get(integer(1))
	want := good(shared)
	for i := range out.Items {
		wipe(out.Items[i], nil)
		for _, later := range out.Items[i+1:] {
			if good(later) != want {
				t.Fatalf("P3: %s, must be %s", good(later), want)
			}
		}
	}
}

// Answers that are kept while the map changes stay as they were.
func TestAnswersStay(t *testing.T) {
	m := keyed.New()
	k, v := record(text("k"), pointer(1, 2)), record(text("v"), pointer(3, 4))
	put(t, m, k, v)
	got, _, _ := m.Get(k)
	var told []api.Datum
	for k, v := range m.Walk() {
		told = append(told, k, v)
		put(t, m, k, none)
		drop(t, m, k, true)
		put(t, m, k, integer(1))
	}
	if !value.Same(got, v) || !value.Same(told[0], k) || !value.Same(told[1], v) {
		t.Errorf("P3: %s, %s, %s", good(got), good(told[0]), good(told[1]))
	}
}

// Each error is a new one, that its owner may write over; where there is none, it is nil itself.
func TestErrorsAreNew(t *testing.T) {
	m := filled(t, "1=a")
	bad, no := boolean(2), record(integer(1), list(1, 1))
	get := func(k api.Datum) error { _, _, err := m.Get(k); return err }
	take := func(k api.Datum) error { _, err := m.Drop(k); return err }
	for _, call := range []func() error{
		func() error { return get(bad) },
		func() error { return get(no) },
		func() error { return take(bad) },
		func() error { return take(no) },
		func() error { return m.Put(bad, none) },
		func() error { return m.Put(none, bad) },
		func() error { return m.Put(no, bad) },
		func() error { return m.Put(no, none) },
	} {
		first, other := call(), call()
		want := fault(t, other)
		if first == other || want == "" || fault(t, first) != want {
			t.Errorf("P2: %v and %v are one", first, other)
		}
		switch e := first.(type) {
		case *api.Wrong:
			*e = api.Wrong{Code: api.ErrMany, At: 5, Name: "x"}
		case *api.Fault:
			*e = api.Fault{Word: "other", More: "words"}
		}
		if fault(t, other) != want || fault(t, call()) != want {
			t.Errorf("P2: %s was written over", want)
		}
	}
	for _, err := range []error{get(integer(1)), get(integer(2)), get(nan), m.Put(integer(1), none), m.Put(integer(2), none), m.Put(nan, none), take(integer(1)), take(integer(1)), take(nan)} {
		if err != nil {
			t.Errorf("P2: %#v", err)
		}
	}
	var f *api.Fault
	if err := m.Put(no, none); !errors.As(err, &f) || f.Error() != "key list" {
		t.Errorf("P2: %v", err)
	}
}

// A fault's text shares no memory with the datum that it was told of.
func TestFaultsAreNotKept(t *testing.T) {
	var kept [][]byte
	m := keyed.New()
	k := roomy(record(typed("Lists", list(1, 1))), &kept)
	err := m.Put(k, none)
	wipe(k, kept)
	if fault(t, err) != "key Lists" {
		t.Errorf("P3: %v", err)
	}
}
