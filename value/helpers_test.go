package value_test

import (
	"errors"
	"fmt"
	"math"
	"math/rand/v2"
	"strings"
	"testing"

	"guise/api"
	"guise/value"
)

const (
	oneNaN    = 0x7FF8000000000001
	minusZero = 1 << 63
	infinity  = 0x7FF0000000000000
	minusInf  = 0xFFF0000000000000
	greatest  = 0x7FEFFFFFFFFFFFFF // of the floats
	smallest  = 1                  // of the floats above 0
)

// otherNaNs are those that may not be.
var otherNaNs = []uint64{0x7FF0000000000001, 0x7FF4000000000000, 0x7FF8000000000000, 0x7FF8000000000002, 0x7FF8000000000011, 0x7FFFFFFFFFFFFFFF,
	0xFFF0000000000001, 0xFFF8000000000000, 0xFFF8000000000001, 0xFFFFFFFFFFFFFFFF}

// kindNames are the kinds' own names, by their numbers.
var kindNames = []string{"", "bool", "int", "float", "text", "list", "map", "func", "", ""}

var (
	none = api.Datum{}
	nan  = bits(oneNaN)
)

func boolean(n int) api.Datum { return api.Datum{Kind: api.KBool, Type: "bool", N: n} }

func integer(n int) api.Datum { return api.Datum{Kind: api.KInt, Type: "int", N: n} }

func bits(b uint64) api.Datum { return api.Datum{Kind: api.KFloat, Type: "float", F: b} }

func float(f float64) api.Datum { return bits(math.Float64bits(f)) }

func text(s string) api.Datum { return api.Datum{Kind: api.KText, Type: "text", S: s} }

func piece(object, from, length, room int) api.Datum {
	return api.Datum{Kind: api.KList, Type: "list", Ref: api.Ref{Object: object, From: from, Len: length, Cap: room}}
}

func list(object, n int) api.Datum { return piece(object, 0, n, n) }

func mapping(object int) api.Datum {
	return api.Datum{Kind: api.KMap, Type: "map", Ref: api.Ref{Object: object}}
}

func function(object int) api.Datum {
	return api.Datum{Kind: api.KFunc, Type: "func", Ref: api.Ref{Object: object}}
}

func record(items ...api.Datum) api.Datum {
	return api.Datum{Kind: api.KStruct, Type: "T", Items: items}
}

func pointer(object int, path ...int) api.Datum {
	return api.Datum{Kind: api.KPointer, Type: "T", Ref: api.Ref{Object: object, Path: path}}
}

func typed(name string, d api.Datum) api.Datum {
	d.Type = name
	return d
}

// ofEachKind is one right datum a kind, by the kinds' numbers.
func ofEachKind() []api.Datum {
	return []api.Datum{none, boolean(1), integer(5), float(1.5), text("abc"), piece(3, 1, 2, 4), mapping(5), function(6), record(integer(1), text("x")), pointer(7, 0, 29)}
}

// within lays d into structs within one another, so many of them.
func within(deep int, d api.Datum) api.Datum {
	for range deep {
		d = record(d)
	}
	return d
}

// times is a struct of n items that are all d.
func times(n int, d api.Datum) api.Datum {
	items := make([]api.Datum, n)
	for i := range items {
		items[i] = d
	}
	return record(items...)
}

// good writes a datum with all that is in it.
func good(d api.Datum) string { return fmt.Sprintf("%+v", d) }

func brief(d api.Datum) string {
	if s := good(d); len(s) > 300 {
		return s[:300] + ".."
	}
	return good(d)
}

// told writes an error: it is nil itself, a *api.Wrong with just ErrArg, or a *api.Fault.
func told(t *testing.T, err error) string {
	t.Helper()
	switch e := err.(type) {
	case nil:
		return ""
	case *api.Wrong:
		if e == nil || *e != (api.Wrong{Code: api.ErrArg}) || !errors.Is(err, api.ErrArg) {
			t.Fatalf("%#v is not just ErrArg", e)
		}
		return "wrong"
	case *api.Fault:
		if e == nil || errors.Is(err, api.ErrArg) || errors.Unwrap(err) != nil {
			t.Fatalf("%#v is no fault by itself", e)
		}
		return e.Word + " " + e.More
	}
	t.Fatalf("%#v is an error of no such type", err)
	return ""
}

// of is a value that there must be.
func of(t *testing.T, d api.Datum) value.Value {
	t.Helper()
	v, err := value.Of(d)
	if err != nil || v == nil {
		t.Fatalf("P7.1: Of(%s): %v, %v", brief(d), v, err)
	}
	return v
}

// asks writes what a value can be asserted to be.
func asks(v value.Value) string {
	var out []string
	if _, is := v.(value.Ordered); is {
		out = append(out, "Ordered")
	}
	if _, is := v.(value.Sized); is {
		out = append(out, "Sized")
	}
	if _, is := v.(value.Keyed); is {
		out = append(out, "Keyed")
	}
	if _, is := v.(value.Pointing); is {
		out = append(out, "Pointing")
	}
	return strings.Join(out, " ")
}

func rank(t *testing.T, a, b api.Datum) (int, bool) {
	t.Helper()
	o, is := of(t, a).(value.Ordered)
	if !is {
		t.Fatalf("P7.2: %s is not Ordered", brief(a))
	}
	return o.Rank(b)
}

func wantRight(t *testing.T, d api.Datum, want bool) {
	t.Helper()
	if value.Right(d) != want {
		t.Errorf("Words: Right(%s): %v, must be %v", brief(d), !want, want)
	}
}

func wantRank(t *testing.T, a, b api.Datum, n int, is bool) {
	t.Helper()
	if m, ok := rank(t, a, b); m != n || ok != is {
		t.Errorf("P7.3: Rank of %s and %s: %d, %v, must be %d, %v", brief(a), brief(b), m, ok, n, is)
	}
}

// equal writes what Equal answers: `yes`, `no`, or the error, beside which stands no yes.
func equal(t *testing.T, a, b api.Datum) string {
	t.Helper()
	is, err := value.Equal(a, b)
	switch {
	case err != nil && is:
		t.Errorf("P2: beside %v stands true", err)
	case err != nil:
		return told(t, err)
	case is:
		return "yes"
	}
	return "no"
}

func wantEqual(t *testing.T, a, b api.Datum, want string) {
	t.Helper()
	if got := equal(t, a, b); got != want {
		t.Errorf("P7.5: Equal(%s, %s): %q, must be %q", brief(a), brief(b), got, want)
	}
}

// wantKey asks Hash, too, and whether a struct is Keyed: all three tell the same.
func wantKey(t *testing.T, d api.Datum, want string) {
	t.Helper()
	if got := told(t, value.Key(d)); got != want {
		t.Errorf("P7.6: Key(%s): %q, must be %q", brief(d), got, want)
	}
	h, err := value.Hash(d)
	if got := told(t, err); got != want {
		t.Errorf("P7.7: Hash(%s): %q, must be %q", brief(d), got, want)
	}
	if err != nil && h != 0 {
		t.Errorf("P7.7: beside %v stands %d", err, h)
	}
	if again, _ := value.Hash(d); again != h {
		t.Errorf("P7.7: Hash(%s): %d, and again %d", brief(d), h, again)
	}
	if d.Kind == api.KNil || want == "wrong" {
		return
	}
	k, is := of(t, d).(value.Keyed)
	if is != (want == "") {
		t.Errorf("P7.2: %s is Keyed: %v", brief(d), is)
	}
	if is && k.Hash() != h {
		t.Errorf("P7.4: Hash() of %s: %d, must be %d", brief(d), k.Hash(), h)
	}
}

func hash(t *testing.T, d api.Datum) uint64 {
	t.Helper()
	h, err := value.Hash(d)
	if err != nil {
		t.Fatalf("P7.7: Hash(%s): %v", brief(d), err)
	}
	return h
}

func wantSame(t *testing.T, a, b api.Datum, want bool) {
	t.Helper()
	if value.Same(a, b) != want || value.Same(b, a) != want {
		t.Errorf("P7.8: Same(%s, %s) is not %v", brief(a), brief(b), want)
	}
}

// dice gives the same numbers on every run.
func dice(seed uint64) *rand.Rand { return rand.New(rand.NewPCG(seed, 7)) }

func oneOf[T any](r *rand.Rand, list ...T) T { return list[r.IntN(len(list))] }
