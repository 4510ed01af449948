package value_test

import (
	"fmt"
	"strings"
	"sync"
	"testing"
	"unsafe"

	"guise/api"
	"guise/value"
)

// writable is a text whose bytes can be written over.
func writable(s string, kept *[][]byte) string {
	if s == "" {
		return ""
	}
	own := []byte(s)
	*kept = append(*kept, own)
	return unsafe.String(&own[0], len(own))
}

// roomy is a datum of memory of its own, with spare room behind all its lists, in which something stands.
func roomy(d api.Datum, kept *[][]byte) api.Datum {
	d.Type, d.S = writable(d.Type, kept), writable(d.S, kept)
	path := append(make([]int, 0, len(d.Ref.Path)+3), d.Ref.Path...)
	copy(path[len(path):cap(path)], []int{91, 92, 93})
	d.Ref.Path = path
	items := append(make([]api.Datum, 0, len(d.Items)+2), d.Items...)
	for i := range items {
		items[i] = roomy(items[i], kept)
	}
	copy(items[len(items):cap(items)], []api.Datum{integer(94), text("95")})
	d.Items = items
	return d
}

// allOf writes a datum with what stands behind its lists.
func allOf(d api.Datum) string {
	d.Ref.Path = d.Ref.Path[:cap(d.Ref.Path)]
	items := d.Items[:cap(d.Items)]
	d.Items = nil
	out := good(d) + "{"
	for _, item := range items {
		out += allOf(item) + ", "
	}
	return out + "}"
}

// wipe writes over all that a datum leads to.
func wipe(d api.Datum, kept [][]byte) {
	for _, own := range kept {
		for i := range own {
			own[i] = '#'
		}
	}
	for i := range d.Ref.Path[:cap(d.Ref.Path)] {
		d.Ref.Path[:cap(d.Ref.Path)][i] = -99
	}
	for i, item := range d.Items[:cap(d.Items)] {
		wipe(item, nil)
		d.Items[:cap(d.Items)][i] = integer(-99)
	}
}

// asked is what all calls answer of two data: told at once, and told again later.
type asked struct {
	v      value.Value
	plain  string
	errors []error
	was    string
}

func (x *asked) told(t *testing.T, b api.Datum) string {
	t.Helper()
	out := x.plain
	for _, err := range x.errors {
		out += told(t, err) + "\n"
	}
	if x.v == nil {
		return out
	}
	out += x.v.Type() + good(x.v.Datum()) + asks(x.v)
	if o, is := x.v.(value.Ordered); is {
		n, is := o.Rank(b)
		out += fmt.Sprint(n, is)
	}
	if s, is := x.v.(value.Sized); is {
		out += fmt.Sprint(s.Len())
	}
	if k, is := x.v.(value.Keyed); is {
		out += fmt.Sprint(k.Hash())
	}
	if p, is := x.v.(value.Pointing); is {
		out += fmt.Sprint(p.None())
	}
	return out
}

// ask: still is b, which nobody writes over.
func ask(t *testing.T, a, b, still api.Datum) *asked {
	t.Helper()
	x := &asked{}
	v, err := value.Of(a)
	is, fault := value.Equal(a, b)
	h, too := value.Hash(a)
	x.v, x.errors = v, []error{err, fault, too, value.Key(a)}
	x.plain = fmt.Sprint(value.Right(a), is, h, value.Same(a, b), " ")
	x.was = strings.Clone(x.told(t, b))
	if x.told(t, still) != x.was {
		t.Errorf("P4: %s, and again %s", x.was, x.told(t, still))
	}
	return x
}

// What is handed in is not changed, nor what stands behind it; and it is not kept: what is answered stays, whatever becomes of it.
func TestNothingIsChangedOrKept(t *testing.T) {
	g := growing(21)
	for range 2000 {
		var kept [][]byte
		d := g.any()
		still := g.near(d)
		a, b := roomy(d, &kept), roomy(still, &kept)
		was := allOf(a) + allOf(b)
		x := ask(t, a, b, still)
		if now := allOf(a) + allOf(b); now != was {
			t.Fatalf("P3: what was handed in is %s, was %s", now, was)
		}
		wipe(a, kept)
		wipe(b, nil)
		if now := x.told(t, still); now != x.was {
			t.Fatalf("P3: what was answered is %s, was %s", now, x.was)
		}
	}
}

// Data that are changed behind Of: their items, what stands in these, their paths, their own texts.
func TestChangedBehindOf(t *testing.T) {
	d := record(integer(1), record(text("a"), pointer(3, 1, 2)), none)
	want := good(d)
	v := of(t, d)
	d.Items[1].Items[1].Ref.Path[0] = 9
	d.Items[1].Items[0] = list(1, 1)
	d.Items[0].N = 7
	d.Items[2] = mapping(0)
	if got := good(v.Datum()); got != want {
		t.Errorf("P7.1: %s, must be %s", got, want)
	}
	if k, is := v.(value.Keyed); !is || k.Hash() != hash(t, v.Datum()) {
		t.Error("P7.1: it was a key, and is none")
	}
	p := pointer(3, 1, 2)
	v = of(t, p)
	p.Ref.Path[1] = 30
	if got := good(v.Datum()); got != good(pointer(3, 1, 2)) {
		t.Errorf("P7.1: %s", got)
	}
}

// wantEmptyBehind: in spare room stands nothing of anybody's.
func wantEmptyBehind(t *testing.T, d api.Datum) {
	t.Helper()
	for _, n := range d.Ref.Path[len(d.Ref.Path):cap(d.Ref.Path)] {
		if n != 0 {
			t.Errorf("P3: behind a path stands %d", n)
		}
	}
	for _, item := range d.Items[len(d.Items):cap(d.Items)] {
		if good(item) != good(none) {
			t.Errorf("P3: behind items stands %s", good(item))
		}
	}
	for _, item := range d.Items {
		wantEmptyBehind(t, item)
	}
}

// What Datum answers is its owner's, each time anew: whoever writes over it changes neither the value nor another answer.
func TestAnswersAreNew(t *testing.T) {
	g := growing(22)
	for range 4000 {
		d := g.right(3)
		if d.Kind == api.KNil {
			continue
		}
		var kept [][]byte
		a := roomy(d, &kept)
		was := allOf(a)
		v, other := of(t, a), of(t, a)
		first, second := v.Datum(), v.Datum()
		want := good(second)
		wantEmptyBehind(t, first)
		wipe(first, nil)
		_ = append(first.Items, integer(-98))
		_ = append(first.Ref.Path, -97)
		if good(second) != want || good(v.Datum()) != want || good(other.Datum()) != want || allOf(a) != was {
			t.Fatalf("P3: %s and %s, must be %s; %s", good(second), good(v.Datum()), want, allOf(a))
		}
	}
}

// Within one answer no two lists share memory, also where what was handed in does.
func TestNoListTwice(t *testing.T) {
	shared := record(pointer(1, 2, 3), record(none))
	d := times(5, shared)
	out := of(t, d).Datum()
	want := good(shared)
	for i := range out.Items {
		wipe(out.Items[i], nil)
		for _, later := range out.Items[i+1:] {
			if good(later) != want {
				t.Fatalf("P3: %s, must be %s", good(later), want)
			}
		}
	}
	if good(d) != good(times(5, shared)) || good(shared) != want {
		t.Errorf("P3: what was handed in is %s", good(d))
	}
}

// shares: whether a text that is answered has bytes of one that was handed in.
func shares(a, b string) bool {
	if a == "" || b == "" {
		return false
	}
	x, y := uintptr(unsafe.Pointer(unsafe.StringData(a))), uintptr(unsafe.Pointer(unsafe.StringData(b)))
	return x < y+uintptr(len(b)) && y < x+uintptr(len(a))
}

func TestTextsAreNew(t *testing.T) {
	for _, d := range append(ofEachKind()[1:], typed("Type", list(1, 1)), typed("Type", function(0))) {
		a := apart(d)
		v := of(t, a)
		texts := []string{v.Type(), v.Datum().Type, v.Datum().S}
		for _, err := range []error{value.Key(a), second(value.Equal(a, a))} {
			if f, is := err.(*api.Fault); is {
				texts = append(texts, f.More)
			}
		}
		for _, item := range v.Datum().Items {
			texts = append(texts, item.Type, item.S)
		}
		for _, own := range texts {
			given := []string{a.Type, a.S}
			for _, item := range a.Items {
				given = append(given, item.Type, item.S)
			}
			for _, s := range given {
				if shares(own, s) {
					t.Errorf("P3: %q of %s shares memory", own, good(a))
				}
			}
		}
	}
}

func second(_ bool, err error) error { return err }

// Each error is a new one, that its owner may write over; where there is none, it is nil itself.
func TestErrorsAreNew(t *testing.T) {
	wrong, bad := boolean(2), record(integer(1), list(1, 1))
	for _, call := range []func() error{
		func() error { _, err := value.Of(wrong); return err },
		func() error { return second(value.Equal(wrong, bad)) },
		func() error { return second(value.Equal(bad, wrong)) },
		func() error { return second(value.Equal(bad, bad)) },
		func() error { return value.Key(wrong) },
		func() error { return value.Key(bad) },
		func() error { _, err := value.Hash(wrong); return err },
		func() error { _, err := value.Hash(bad); return err },
	} {
		first, other := call(), call()
		want := told(t, other)
		if first == other || told(t, first) != want {
			t.Errorf("P2: %v and %v are one", first, other)
		}
		switch e := first.(type) {
		case *api.Wrong:
			*e = api.Wrong{Code: api.ErrMany, At: 5, Name: "x"}
		case *api.Fault:
			*e = api.Fault{Word: "other", More: "words"}
		}
		if told(t, other) != want || told(t, call()) != want {
			t.Errorf("P2: %s was written over", want)
		}
	}
	if _, err := value.Of(integer(1)); err != nil {
		t.Errorf("P2: %#v", err)
	}
	if err := second(value.Equal(integer(1), integer(1))); err != nil {
		t.Errorf("P2: %#v", err)
	}
	if err := value.Key(integer(1)); err != nil {
		t.Errorf("P2: %#v", err)
	}
	if _, err := value.Hash(integer(1)); err != nil {
		t.Errorf("P2: %#v", err)
	}
}

// Several may ask at one time, of the same data, and of the same value.
func TestAtOneTime(t *testing.T) {
	d := record(integer(1), record(text("a"), pointer(3, 1, 2)), float(1.5))
	want := ask(t, d, d, d).was
	v := of(t, d)
	var group sync.WaitGroup
	for range 8 {
		group.Go(func() {
			for range 200 {
				if x := ask(t, d, d, d); x.was != want || good(v.Datum()) != good(d) || v.Type() != "T" {
					t.Errorf("P4: %s, must be %s", x.was, want)
				}
			}
		})
	}
	group.Wait()
}
