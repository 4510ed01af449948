package value_test

import (
	"math"
	"slices"
	"strings"
	"testing"

	"guise/api"
	"guise/value"
)

func TestOfNil(t *testing.T) {
	for _, d := range []api.Datum{{}, {Items: []api.Datum{}, Ref: api.Ref{Path: []int{}}}} {
		if v, err := value.Of(d); v != nil || err != nil {
			t.Errorf("P7.1: %#v, %#v", v, err)
		}
	}
}

func TestOfWrong(t *testing.T) {
	for _, d := range []api.Datum{{Kind: 10}, {Kind: -1}, {Kind: api.KInt}, {Type: "T"}, {N: 1}, boolean(2), boolean(-1), typed("int", text("a")), typed("any", integer(1)), bits(oneNaN - 1),
		piece(0, 1, 0, 0), mapping(-1), typed("func", record()), times(31, none), record(none, boolean(3)), within(100, none), pointer(0, 0), pointer(1, 30), typed("*T", pointer(1))} {
		if v, err := value.Of(d); v != nil || told(t, err) != "wrong" {
			t.Errorf("P7.1: Of(%s): %v, %v", brief(d), v, err)
		}
	}
}

func TestTypeAndDatum(t *testing.T) {
	long := strings.Repeat("N", 40)
	for _, c := range []struct {
		d    api.Datum
		want string
	}{
		{boolean(0), "bool"}, {boolean(1), "bool"}, {integer(-5), "int"}, {float(1.5), "float"}, {nan, "float"}, {bits(minusZero), "float"}, {text(""), "text"}, {text("a\x00\xff"), "text"},
		{list(0, 0), "list"}, {piece(3, 1, 2, 4), "list"}, {mapping(0), "map"}, {mapping(5), "map"}, {function(0), "func"}, {function(2147483647), "func"},
		{typed("B", boolean(1)), "B"}, {typed("T", integer(5)), "T"}, {typed(long, float(2)), long}, {typed("_", text("x")), "_"}, {typed("L", list(0, 0)), "L"},
		{typed("M", mapping(1)), "M"}, {typed("F", function(1)), "F"}, {record(), "T"}, {record(none, integer(1)), "T"}, {typed(long, record(record(pointer(1, 2)))), long},
		{pointer(0), "*T"}, {pointer(7), "*T"}, {pointer(7, 0, 29, 3), "*T"}, {typed(long, pointer(1)), "*" + long}, {typed("fault", pointer(1)), "*fault"},
		{text(strings.Repeat("ab", 32768)), "text"}, {times(30, text("x")), "T"}, {within(99, float(3)), "T"},
	} {
		v := of(t, c.d)
		for range 3 {
			if v.Type() != c.want {
				t.Errorf("P7.1: the type of %s is told as %q", brief(c.d), v.Type())
			}
			if d := v.Datum(); good(d) != good(c.d) || !value.Same(d, c.d) {
				t.Errorf("P7.1: the datum of %s is %s", brief(c.d), brief(d))
			}
		}
	}
}

// What a value can be asked hangs on its kind alone: not on its type's name, nor on what it holds; but for structs.
func TestWhatValuesCanBeAsked(t *testing.T) {
	want := []string{"", "Keyed", "Ordered Keyed", "Ordered Keyed", "Ordered Sized Keyed", "Sized Pointing", "Pointing", "Pointing", "Keyed", "Keyed Pointing"}
	all := append(ofEachKind(), boolean(0), integer(0), integer(math.MinInt64), float(0), nan, bits(infinity), text(""), list(0, 0), list(1, 0), list(9, 9), mapping(0), function(0), pointer(0), pointer(1),
		record(), record(none), record(nan), record(pointer(0)))
	for _, d := range all {
		for _, name := range []string{d.Type, "T", "int", "list", "Keyed"} {
			if d.Type = name; d.Kind == api.KNil || !value.Right(d) {
				continue
			}
			if got := asks(of(t, d)); got != want[d.Kind] {
				t.Errorf("P7.2: %s is %q, must be %q", good(d), got, want[d.Kind])
			}
		}
	}
	for _, held := range []api.Datum{list(0, 0), list(1, 1), mapping(0), mapping(1), function(0), function(1), typed("L", list(1, 1))} {
		for _, d := range []api.Datum{record(held), record(integer(1), held), record(held, nan), record(record(none, record(held)), integer(1)), within(99, held)} {
			if got := asks(of(t, d)); got != "" {
				t.Errorf("P7.2: %s is %q", brief(d), got)
			}
		}
		for _, d := range []api.Datum{record(nan, held), record(integer(1), nan, held), record(record(nan), held), record(record(nan, held), held)} {
			if got := asks(of(t, d)); got != "Keyed" {
				t.Errorf("P7.2: %s is %q", brief(d), got)
			}
		}
	}
}

// rising are values of one type, each above the one ahead of it.
var rising = [][]api.Datum{
	{integer(math.MinInt64), integer(math.MinInt64 + 1), integer(-1 << 32), integer(-2), integer(-1), integer(0), integer(1), integer(2), integer(1 << 32), integer(1 << 53), integer(1<<53 + 1), integer(math.MaxInt64 - 1), integer(math.MaxInt64)},
	{bits(minusInf), bits(greatest | minusZero), float(-1e300), float(-2), float(-1), float(-0.5), bits(smallest | minusZero), bits(0), bits(smallest), bits(2), float(0.5), float(1), bits(0x3FF0000000000001), float(2), float(1e300), bits(greatest), bits(infinity)},
	{text(""), text("\x00"), text("\x00\x00"), text("\x01"), text("A"), text("B"), text("a"), text("a\x00"), text("aa"), text("aaa"), text("ab"), text("a\xff"), text("b"), text("\x7f"), text("\x80"), text("é"), text("\xff"), text("\xff\x00"), text("\xff\xff")},
}

func TestRank(t *testing.T) {
	for _, row := range rising {
		for _, name := range []string{row[0].Type, "T"} {
			for i, a := range row {
				for j, b := range row {
					want := 0
					if i < j {
						want = -1
					} else if i > j {
						want = 1
					}
					wantRank(t, typed(name, a), typed(name, b), want, true)
				}
			}
		}
	}
	wantRank(t, bits(0), bits(minusZero), 0, true)
	wantRank(t, bits(minusZero), bits(0), 0, true)
	wantRank(t, bits(minusZero), bits(minusZero), 0, true)
	wantRank(t, bits(minusZero), bits(smallest), -1, true)
	wantRank(t, bits(minusZero), bits(smallest|minusZero), 1, true)
	big := strings.Repeat("a", 65535)
	wantRank(t, text(big+"a"), text(big+"b"), -1, true)
	wantRank(t, text(big+"a"), text(big), 1, true)
	wantRank(t, text(big+"a"), text(big+"a"), 0, true)
	wantRank(t, text("b"), text(big), 1, true)
}

func TestNoRank(t *testing.T) {
	for _, b := range []uint64{0, minusZero, 1, infinity, minusInf, oneNaN} {
		wantRank(t, nan, bits(b), 0, false)
		wantRank(t, bits(b), nan, 0, false)
		wantRank(t, typed("F", nan), typed("F", bits(b)), 0, false)
	}
	ordered := []api.Datum{integer(5), float(5), text("5"), typed("T", integer(5)), typed("T", float(5)), typed("T", text("5")), typed("U", integer(5))}
	for i, a := range ordered {
		for j, b := range ordered {
			if i != j {
				wantRank(t, a, b, 0, false)
			}
		}
		for _, b := range ofEachKind() {
			if b.Kind != a.Kind {
				wantRank(t, a, b, 0, false)
				wantRank(t, a, typed(a.Type, b), 0, false)
			}
		}
		wrong := []api.Datum{a, a, a, a, a, a, a, a, a, a, {Kind: a.Kind}, {Kind: 10, Type: a.Type}, {Kind: -1, Type: a.Type}}
		for i, f := range fields {
			f.set(&wrong[i])
		}
		wrong[9].Type = "T T"
		for i, b := range wrong {
			if i < len(fields) && value.Right(b) { // what its kind has
				continue
			}
			wantRank(t, a, b, 0, false)
		}
	}
	for _, b := range otherNaNs {
		wantRank(t, float(5), bits(b), 0, false)
	}
	wantRank(t, text("a"), text(strings.Repeat("a", 65537)), 0, false)
	wantRank(t, text(strings.Repeat("a", 65536)), text(strings.Repeat("a", 65537)), 0, false)
	wantRank(t, integer(5), none, 0, false)
	wantRank(t, integer(5), typed("int", record()), 0, false)
}

func TestLen(t *testing.T) {
	for _, c := range []struct {
		d    api.Datum
		want int
	}{
		{text(""), 0}, {text("a"), 1}, {text("é"), 2}, {text("\x00\x00"), 2}, {text(strings.Repeat("x", 65536)), 65536}, {typed("T", text("abc")), 3},
		{list(0, 0), 0}, {list(1, 0), 0}, {piece(1, 5, 3, 9), 3}, {piece(1, 5, 0, 9), 0}, {piece(1, 0, 1048576, 1048576), 1048576}, {piece(1, 1048570, 6, 6), 6}, {typed("L", list(3, 7)), 7},
	} {
		s, is := of(t, c.d).(value.Sized)
		if !is || s.Len() != c.want {
			t.Errorf("P7.4: the length of %s is not %d", brief(c.d), c.want)
		}
	}
}

func TestNone(t *testing.T) {
	for _, object := range []int{0, 1, 2, 2147483647} {
		for _, d := range []api.Datum{list(object, 0), mapping(object), function(object), pointer(object)} {
			for _, d := range []api.Datum{d, typed("U", d)} {
				p, is := of(t, d).(value.Pointing)
				if !is || p.None() != (object == 0) {
					t.Errorf("P7.4: None of %s is not %v", good(d), object == 0)
				}
			}
		}
	}
	if p, is := of(t, pointer(1, 0, 0)).(value.Pointing); !is || p.None() {
		t.Error("P7.4: a pointer to a part leads to none")
	}
	if p, is := of(t, piece(1, 0, 0, 0)).(value.Pointing); !is || p.None() {
		t.Error("P7.4: a list of nothing leads to none")
	}
}

func TestHashOfValues(t *testing.T) {
	for _, d := range append(slices.Concat(rising...), boolean(0), boolean(1), nan, bits(minusZero), record(), record(none, nan, list(1, 1)), record(integer(1), text("a")), within(99, none), pointer(0), pointer(1), pointer(1, 2)) {
		k, is := of(t, d).(value.Keyed)
		if !is {
			t.Fatalf("P7.2: %s is not Keyed", brief(d))
		}
		for range 2 {
			if k.Hash() != hash(t, d) || k.Hash() != hash(t, k.Datum()) {
				t.Errorf("P7.4: Hash() of %s is %d, must be %d", brief(d), k.Hash(), hash(t, d))
			}
		}
	}
}
