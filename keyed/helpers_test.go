package keyed_test

import (
	"errors"
	"fmt"
	"iter"
	"math"
	"math/rand/v2"
	"slices"
	"strconv"
	"strings"
	"testing"

	"guise/api"
	"guise/keyed"
	"guise/number"
	"guise/value"
)

const (
	oneNaN    = 0x7FF8000000000001
	minusZero = 1 << 63
)

// table is what a map can be asked: by the program's, and by the model.
type table interface {
	Get(k api.Datum) (api.Datum, bool, error)
	Put(k, v api.Datum) error
	Drop(k api.Datum) (bool, error)
	Len() int
	All() iter.Seq2[api.Datum, api.Datum]
	Walk() iter.Seq2[api.Datum, api.Datum]
}

var (
	none = api.Datum{}
	nan  = bits(oneNaN)
)

func boolean(n int) api.Datum { return api.Datum{Kind: api.KBool, Type: "bool", N: n} }

func integer(n int) api.Datum { return api.Datum{Kind: api.KInt, Type: "int", N: n} }

func bits(b uint64) api.Datum { return api.Datum{Kind: api.KFloat, Type: "float", F: b} }

func float(f float64) api.Datum { return bits(math.Float64bits(f)) }

func text(s string) api.Datum { return api.Datum{Kind: api.KText, Type: "text", S: s} }

func list(object, n int) api.Datum {
	return api.Datum{Kind: api.KList, Type: "list", Ref: api.Ref{Object: object, Len: n, Cap: n}}
}

func mapping(object int) api.Datum {
	return api.Datum{Kind: api.KMap, Type: "map", Ref: api.Ref{Object: object}}
}

func function(object int) api.Datum {
	return api.Datum{Kind: api.KFunc, Type: "func", Ref: api.Ref{Object: object}}
}

func record(items ...api.Datum) api.Datum {
	return api.Datum{Kind: api.KStruct, Type: "T", Items: items}
}

func pointer(object int, path ...int) api.Datum {
	return api.Datum{Kind: api.KPointer, Type: "T", Ref: api.Ref{Object: object, Path: path}}
}

func typed(name string, d api.Datum) api.Datum {
	d.Type = name
	return d
}

// within lays d into structs within one another, so many of them.
func within(deep int, d api.Datum) api.Datum {
	for range deep {
		d = record(d)
	}
	return d
}

// times is a struct of n items that are all d.
func times(n int, d api.Datum) api.Datum { return record(slices.Repeat([]api.Datum{d}, n)...) }

// keys are right ones that are equal to themselves, no two of them equal: of each kind, of unlike types that are alike otherwise, at edges.
func keys() []api.Datum {
	one := float(1)
	return []api.Datum{none,
		boolean(0), boolean(1), typed("T", boolean(0)), typed("T", boolean(1)),
		integer(0), integer(1), integer(-1), integer(math.MinInt64), integer(math.MaxInt64), integer(int(one.F)), typed("T", integer(0)), typed("T", integer(1)), typed("U", integer(1)),
		float(0), one, float(-1), float(math.Inf(1)), float(math.Inf(-1)), bits(1), bits(minusZero + 1), typed("T", float(0)), typed("T", one),
		text(""), text("1"), text("T"), text("nil"), text("\x00"), text("\x00\x00"), text(strings.Repeat("a", api.MaxText)), text(strings.Repeat("a", api.MaxText-1)), typed("T", text("")), typed("T", text("1")),
		pointer(0), pointer(1), pointer(2), pointer(api.MaxObjects), pointer(1, 0), pointer(1, 0, 0), pointer(1, 29), pointer(1, 0, 29), pointer(1, make([]int, api.MaxSize)...), typed("U", pointer(0)), typed("U", pointer(1)),
		record(), typed("U", record()), record(none), record(none, none), record(record()), record(record(), none), record(record(none)),
		record(integer(1)), record(integer(1), integer(2)), record(integer(2), integer(1)), record(integer(1), record(integer(2))), record(float(0)), record(one), record(pointer(0)), record(pointer(1)), record(text("1")), record(typed("T", integer(1))),
		times(30, none), times(29, none), within(99, integer(1)), within(98, integer(1)), within(99, none),
	}
}

// lost are right ones that may be keys, and that are not equal to themselves: no entry of theirs is found.
func lost() []api.Datum {
	return []api.Datum{nan, typed("T", nan), record(nan), record(nan, integer(1)), record(integer(1), nan), record(nan, list(1, 1)), record(nan, function(0), mapping(2)), record(record(float(0), nan), mapping(0)), within(99, nan)}
}

// refused are right ones that are no keys, with the type that is told.
func refused() []struct {
	more string
	all  []api.Datum
} {
	return []struct {
		more string
		all  []api.Datum
	}{
		{"list", []api.Datum{list(0, 0), list(1, 0), list(3, 2), record(list(0, 0)), record(integer(1), list(1, 1), function(0)), record(list(1, 1), nan), record(record(integer(1), list(1, 1)), nan), within(99, list(0, 0))}},
		{"map", []api.Datum{mapping(0), mapping(7), record(none, mapping(0)), record(float(0), mapping(1), nan)}},
		{"func", []api.Datum{function(0), function(7), record(integer(1), function(0)), record(function(0), mapping(0), nan)}},
		{"L", []api.Datum{typed("L", list(0, 0)), typed("L", list(1, 1)), record(pointer(0), typed("L", list(0, 0)))}},
		{"M", []api.Datum{typed("M", mapping(0)), record(typed("M", mapping(3)), list(0, 0))}},
		{"F", []api.Datum{typed("F", function(0)), record(integer(1), typed("F", function(3)))}},
	}
}

func noKeys() []api.Datum {
	var out []api.Datum
	for _, r := range refused() {
		out = append(out, r.all...)
	}
	return out
}

// wrong are data that are not right.
func wrong() []api.Datum {
	return []api.Datum{{Kind: 99}, {Kind: 10, Type: "T"}, {Kind: -1}, {Kind: api.KInt}, {Kind: api.KInt, Type: "text"}, boolean(2), boolean(-1),
		{Type: "nil"}, {N: 1}, {F: 1}, {S: "a"}, {Items: []api.Datum{none}}, {Ref: api.Ref{Object: 1}}, {Ref: api.Ref{Path: []int{0}}},
		bits(oneNaN + 1), bits(oneNaN | minusZero), text(strings.Repeat("a", api.MaxText+1)), typed("any", integer(1)), typed("1a", integer(1)), typed(strings.Repeat("a", 41), integer(1)),
		{Kind: api.KInt, Type: "int", S: "a"}, {Kind: api.KText, Type: "text", N: 1}, {Kind: api.KList, Type: "list", Ref: api.Ref{Len: 1}}, list(1, -1), list(-1, 1), list(api.MaxObjects+1, 1),
		{Kind: api.KMap, Type: "map", Ref: api.Ref{Object: 5, Len: 1}}, mapping(-1), function(api.MaxObjects + 1),
		typed("int", record()), typed("", record()), times(31, none), within(100, none), record(integer(1), record(boolean(2))), record(nan, bits(oneNaN+1)), record(list(0, 0), typed("struct", integer(1))),
		pointer(0, 0), pointer(1, 30), pointer(1, -1), pointer(1, make([]int, api.MaxSize+1)...), typed("pointer", pointer(0)),
	}
}

// short writes a datum in few signs; long texts are cut.
func short(d api.Datum) string {
	switch d.Kind {
	case api.KNil, api.KBool, api.KInt, api.KText:
		if n := len(d.S); n > 60 {
			return number.Show(typed(d.Type, text(d.S[:20]))) + ".." + strconv.Itoa(n)
		}
		return number.Show(d)
	case api.KFloat:
		s := strconv.FormatFloat(math.Float64frombits(d.F), 'g', -1, 64)
		if !strings.ContainsAny(s, ".NIe") {
			s += ".0"
		}
		if d.Type != "float" {
			return d.Type + "(" + s + ")"
		}
		return s
	case api.KStruct:
		var items []string
		for _, item := range d.Items {
			items = append(items, short(item))
		}
		return d.Type + "{" + strings.Join(items, ", ") + "}"
	}
	return fmt.Sprint(number.Name(d), "@", d.Ref.Object, d.Ref.From, d.Ref.Len, d.Ref.Cap, d.Ref.Path)
}

// over writes what a range tells: 1=a 2=b.
func over(seq iter.Seq2[api.Datum, api.Datum]) string {
	var out []string
	for k, v := range seq {
		out = append(out, shortPair(k, v))
	}
	return strings.Join(out, " ")
}

func shortPair(k, v api.Datum) string {
	if v.Kind == api.KText && v.Type == "text" {
		return short(k) + "=" + v.S
	}
	return short(k) + "=" + short(v)
}

// all writes what lies in a map, told in both ways, and holds Len against it.
func all(t *testing.T, m table) string {
	t.Helper()
	out := over(m.All())
	if walked := over(m.Walk()); walked != out {
		t.Errorf("M5: Walk tells %q, All %q", walked, out)
	}
	n := 0
	for range m.All() {
		n++
	}
	if m.Len() != n {
		t.Errorf("M1: Len: %d, All tells %d", m.Len(), n)
	}
	return out
}

func wantAll(t *testing.T, m table, want string) {
	t.Helper()
	if got := all(t, m); got != want {
		t.Errorf("M3: there is %q, must be %q", got, want)
	}
}

// fault writes an error: it is nil itself, a *api.Wrong with just ErrArg, or a *api.Fault.
func fault(t *testing.T, err error) string {
	t.Helper()
	switch e := err.(type) {
	case nil:
		return ""
	case *api.Wrong:
		if e == nil || *e != (api.Wrong{Code: api.ErrArg}) || !errors.Is(err, api.ErrArg) {
			t.Fatalf("M2: %#v is not just ErrArg", e)
		}
		return "wrong"
	case *api.Fault:
		if e == nil || errors.Is(err, api.ErrArg) || errors.Unwrap(err) != nil {
			t.Fatalf("M2: %#v is no fault by itself", e)
		}
		return e.Word + " " + e.More
	}
	t.Fatalf("M2: %#v is an error of no such type", err)
	return ""
}

func put(t *testing.T, m table, k, v api.Datum) {
	t.Helper()
	if err := m.Put(k, v); err != nil {
		t.Fatalf("M3: Put(%s, %s): %v", short(k), short(v), err)
	}
}

func drop(t *testing.T, m table, k api.Datum, want bool) {
	t.Helper()
	if was, err := m.Drop(k); was != want || err != nil {
		t.Errorf("M3: Drop(%s): %v, %v, must be %v", short(k), was, err, want)
	}
}

func wantGet(t *testing.T, m table, k, want api.Datum) {
	t.Helper()
	if v, is, err := m.Get(k); !is || err != nil || !value.Same(v, want) {
		t.Errorf("M3: Get(%s): %s, %v, %v, must be %s", short(k), short(v), is, err, short(want))
	}
}

func wantNone(t *testing.T, m table, k api.Datum) {
	t.Helper()
	if v, is, err := m.Get(k); is || err != nil || !value.Same(v, none) {
		t.Errorf("M3: Get(%s): %s, %v, %v, must be nothing", short(k), short(v), is, err)
	}
}

// word reads a key as it stands in the tests' tables: nil, nan, 1.0, {nan}, {1,-0.0}, else an int.
func word(s string) api.Datum {
	if inside, is := strings.CutPrefix(s, "{"); is {
		d := record()
		for item := range strings.SplitSeq(strings.TrimSuffix(inside, "}"), ",") {
			d.Items = append(d.Items, word(item))
		}
		return d
	}
	switch {
	case s == "nil":
		return none
	case s == "nan":
		return nan
	case s == "list":
		return list(1, 1)
	case strings.Contains(s, "."):
		f, err := strconv.ParseFloat(s, 64)
		if err != nil {
			panic(err)
		}
		return float(f)
	}
	n, err := strconv.Atoi(s)
	if err != nil {
		panic(err)
	}
	return integer(n)
}

// do does what is written: `1=a` is a Put, `~1` a Drop, `?1` a Get.
func do(t *testing.T, m table, what string) {
	t.Helper()
	for s := range strings.FieldsSeq(what) {
		k, v, is := strings.Cut(s, "=")
		var err error
		switch {
		case is:
			err = m.Put(word(k), text(v))
		case k[0] == '~':
			_, err = m.Drop(word(k[1:]))
		case k[0] == '?':
			_, _, err = m.Get(word(k[1:]))
		default:
			t.Fatalf("%q says nothing", s)
		}
		if err != nil {
			t.Fatalf("M3: %s: %v", s, err)
		}
	}
}

// filled is a map to which this was done.
func filled(t *testing.T, what string) *keyed.Map {
	t.Helper()
	m := keyed.New()
	do(t, m, what)
	return m
}

// dice gives the same numbers on every run.
func dice(seed uint64) *rand.Rand { return rand.New(rand.NewPCG(seed, 9)) }

func oneOf[T any](r *rand.Rand, list ...T) T { return list[r.IntN(len(list))] }
