package value_test

import (
	"math"
	"slices"
	"strings"
	"testing"

	"guise/api"
	"guise/value"
)

// unlike are right ones of which no two are equal, none has a NaN, and none a list, map or func.
func unlike() []api.Datum {
	out := append(slices.Concat(rising...), none, boolean(0), boolean(1), typed("T", boolean(0)), typed("T", boolean(1)), typed("U", boolean(1)))
	out = append(out, typed("T", integer(0)), typed("T", integer(1)), typed("U", integer(1)), typed("T", float(0)), typed("T", float(1)), typed("T", text("")), typed("T", text("a")), typed("TU", text("a")), typed("U", text("aT")))
	out = append(out, record(text(""), text("\x00\x00\x00\x04text\x00\x00")), record(text("\x00\x00\x00\x04text\x00\x00"), text("")), record(text(""), text("\x00\x00\x04text\x00\x00")), record(text("\x00\x00\x04text\x00\x00"), text("")))
	out = append(out, pointer(0), pointer(1), pointer(2), pointer(2147483647), pointer(1, 0), pointer(1, 0, 0), pointer(1, 1), pointer(1, 0, 1), pointer(1, 1, 0), pointer(2, 0), pointer(1, make([]int, 100)...), pointer(1, make([]int, 99)...))
	out = append(out, typed("U", pointer(0)), typed("U", pointer(1)), typed("U", pointer(1, 0)))
	out = append(out, record(), typed("U", record()), record(none), record(none, none), record(boolean(0)), record(integer(0)), record(float(0)), record(text("")), record(text("ab"), text("c")), record(text("a"), text("bc")), record(text("abc"), text("")))
	out = append(out, record(integer(1), integer(2)), record(integer(2), integer(1)), record(integer(1), integer(2), none), record(none, integer(1), integer(2)), typed("U", record(integer(1), integer(2))))
	out = append(out, record(record()), record(record(), none), record(record(none)), record(none, record()), record(typed("U", record())), record(record(integer(1)), integer(2)), record(record(integer(1), integer(2))), record(pointer(0)), record(pointer(1)))
	return append(out, times(30, none), times(29, none), within(98, none), within(97, none), within(98, integer(1)), within(98, integer(2)))
}

func TestEqual(t *testing.T) {
	all := unlike()
	for i, a := range all {
		for j, b := range all {
			want := "no"
			if i == j {
				want = "yes"
			}
			wantEqual(t, a, b, want)
		}
		wantKey(t, a, "")
	}
}

func TestEqualFloats(t *testing.T) {
	wantEqual(t, bits(0), bits(minusZero), "yes")
	wantEqual(t, bits(minusZero), bits(0), "yes")
	wantEqual(t, bits(minusZero), bits(minusZero), "yes")
	wantEqual(t, bits(minusZero), bits(smallest), "no")
	wantEqual(t, bits(minusZero), bits(smallest|minusZero), "no")
	wantEqual(t, nan, nan, "no")
	wantEqual(t, nan, float(1), "no")
	wantEqual(t, float(1), nan, "no")
	wantEqual(t, typed("F", bits(0)), typed("F", bits(minusZero)), "yes")
	wantEqual(t, typed("F", bits(0)), bits(minusZero), "no")
	wantEqual(t, record(integer(1), bits(0)), record(integer(1), bits(minusZero)), "yes")
	wantEqual(t, record(nan), record(nan), "no")
	wantEqual(t, record(integer(1), record(nan)), record(integer(1), record(nan)), "no")
	for _, b := range []float64{math.Inf(1), math.Inf(-1), math.MaxFloat64, math.SmallestNonzeroFloat64, 1.5} {
		wantEqual(t, float(b), float(b), "yes")
		wantEqual(t, float(b), float(-b), "no")
	}
}

// What can't be compared says so where it is come to, and only there.
func TestCompareFaults(t *testing.T) {
	for _, c := range []struct {
		d    api.Datum
		want string
	}{
		{list(0, 0), "list"}, {list(1, 0), "list"}, {piece(1, 2, 3, 4), "list"}, {mapping(0), "map"}, {mapping(9), "map"}, {function(0), "func"}, {function(9), "func"},
		{typed("L", list(0, 0)), "L"}, {typed("M", mapping(1)), "M"}, {typed("F", function(1)), "F"}, {typed(strings.Repeat("n", 40), list(1, 1)), strings.Repeat("n", 40)},
	} {
		fault, other := "compare "+c.want, c.d
		other.Ref = api.Ref{Object: 77}
		one := integer(1)
		wantEqual(t, c.d, c.d, fault)
		wantEqual(t, c.d, other, fault)
		wantEqual(t, other, c.d, fault)
		wantEqual(t, c.d, none, "no")
		wantEqual(t, none, c.d, "no")
		wantEqual(t, c.d, one, "no")
		wantEqual(t, one, c.d, "no")
		wantEqual(t, c.d, typed("Other", c.d), "no")
		wantEqual(t, record(c.d), record(c.d), fault)
		wantEqual(t, record(c.d), record(typed("Other", c.d)), "no")
		wantEqual(t, record(c.d), record(none), "no")
		wantEqual(t, record(c.d), c.d, "no")
		wantEqual(t, record(c.d), typed("U", record(c.d)), "no")
		wantEqual(t, record(one, c.d), record(one, other), fault)
		wantEqual(t, record(one, c.d), record(integer(2), other), "no")
		wantEqual(t, record(c.d, one), record(other, integer(2)), fault)
		wantEqual(t, record(c.d, one), record(other), "no")
		wantEqual(t, record(c.d), record(other, one), "no")
		wantEqual(t, record(c.d, c.d), record(one, c.d), "no")
		wantEqual(t, record(nan, c.d), record(nan, c.d), "no")
		wantEqual(t, record(c.d, nan), record(c.d, nan), fault)
		wantEqual(t, record(record(one, c.d), one), record(record(one, other), integer(2)), fault)
		wantEqual(t, record(record(one), c.d), record(record(integer(2)), c.d), "no")
		wantEqual(t, record(record(one), c.d), record(record(one, one), c.d), "no")
		wantEqual(t, record(record(one), c.d), record(typed("U", record(one)), c.d), "no")
		wantEqual(t, record(c.d, function(1)), record(c.d, mapping(1)), fault)
		wantEqual(t, record(record(c.d), function(1)), record(record(other), function(1)), fault)
		wantEqual(t, within(99, c.d), within(99, other), fault)
		wantEqual(t, within(99, c.d), within(99, one), "no")
		wantEqual(t, within(99, c.d), within(98, one), "no")
	}
	wantEqual(t, record(mapping(1), list(1, 1)), record(mapping(2), list(1, 1)), "compare map")
	wantEqual(t, record(text("a"), function(1), list(1, 1)), record(text("a"), function(1), list(1, 1)), "compare func")
	// A pointer to an object with lists in it is a pointer.
	wantEqual(t, record(pointer(1)), record(pointer(1)), "yes")
}

// Whether both are right is asked first.
func TestEqualOfWrong(t *testing.T) {
	wrong := []api.Datum{{Kind: 10}, {Kind: -1}, {Kind: api.KInt}, {N: 1}, boolean(2), bits(oneNaN + 1), typed("text", integer(1)), piece(0, 0, 0, 1), pointer(0, 0), times(31, none), record(integer(1), boolean(2)), record(list(1, 1), boolean(2)), within(100, none)}
	for _, w := range wrong {
		for _, d := range append(ofEachKind(), record(list(1, 1)), nan) {
			wantEqual(t, w, d, "wrong")
			wantEqual(t, d, w, "wrong")
			wantEqual(t, record(d, w), record(list(1, 1)), "wrong")
			wantEqual(t, record(list(1, 1)), record(list(1, 1), w), "wrong")
		}
		wantEqual(t, w, w, "wrong")
		wantKey(t, w, "wrong")
		wantKey(t, record(list(1, 1), w), "wrong")
		wantKey(t, record(nan, w), "wrong")
	}
}

func TestKey(t *testing.T) {
	one := integer(1)
	for _, d := range []api.Datum{none, nan, boolean(1), one, text(""), pointer(0), pointer(3, 4), record(), record(none), record(nan), typed("T", nan)} {
		wantKey(t, d, "")
	}
	for _, c := range []struct {
		d    api.Datum
		want string
	}{
		{list(0, 0), "key list"}, {list(1, 1), "key list"}, {mapping(0), "key map"}, {function(0), "key func"}, {typed("L", list(1, 1)), "key L"},
		{typed("M", mapping(1)), "key M"}, {typed("F", function(0)), "key F"},
	} {
		wantKey(t, c.d, c.want)
		wantKey(t, record(c.d), c.want)
		wantKey(t, record(one, pointer(1), c.d, nan), c.want)
		wantKey(t, record(one, record(none, c.d), function(1)), c.want)
		wantKey(t, record(c.d, function(1), mapping(1)), c.want)
		wantKey(t, record(record(one), record(), c.d), c.want)
		wantKey(t, within(99, c.d), c.want)
		wantKey(t, record(nan, c.d), "")
		wantKey(t, record(one, nan, one, c.d, nan), "")
		wantKey(t, record(record(one, nan), c.d), "")
		wantKey(t, record(record(nan, c.d), c.d), "")
		wantKey(t, record(one, record(nan, c.d), list(1, 1)), "")
		wantKey(t, record(bits(minusZero), bits(infinity), c.d), c.want)
	}
}

func TestHashOfEqual(t *testing.T) {
	for _, c := range [][2]api.Datum{
		{bits(0), bits(minusZero)}, {typed("F", bits(0)), typed("F", bits(minusZero))}, {record(bits(0)), record(bits(minusZero))},
		{record(integer(1), record(text("a"), bits(minusZero))), record(integer(1), record(text("a"), bits(0)))},
		{record(), {Kind: api.KStruct, Type: "T", Items: []api.Datum{}}}, {pointer(1), {Kind: api.KPointer, Type: "T", Ref: api.Ref{Object: 1, Path: []int{}}}},
	} {
		wantEqual(t, c[0], c[1], "yes")
		if hash(t, c[0]) != hash(t, c[1]) {
			t.Errorf("P7.7: %s and %s are equal, but not their hashes", good(c[0]), good(c[1]))
		}
	}
	for _, d := range unlike() {
		if hash(t, d) != hash(t, apart(d)) {
			t.Errorf("P7.7: two hashes of %s", brief(d))
		}
	}
}

// apart is the same datum in other memory.
func apart(d api.Datum) api.Datum {
	d.Type, d.S = strings.Clone(d.Type), strings.Clone(d.S)
	d.Ref.Path = slices.Clone(d.Ref.Path)
	d.Items = slices.Clone(d.Items)
	for i := range d.Items {
		d.Items[i] = apart(d.Items[i])
	}
	return d
}

// Hashes are worth asking: what is not equal mostly has another one, also if only the lowest bits are looked at.
func TestHashesAreSpread(t *testing.T) {
	const n = 4096
	for name, made := range map[string]func(i int) api.Datum{
		"ints":       func(i int) api.Datum { return integer(i) },
		"even ints":  func(i int) api.Datum { return integer(i * 65536) },
		"large ints": func(i int) api.Datum { return integer(i << 50) },
		"negatives":  func(i int) api.Datum { return integer(-i) },
		"floats":     func(i int) api.Datum { return float(float64(i)) },
		"fractions":  func(i int) api.Datum { return float(float64(i) / 1024) },
		"texts":      func(i int) api.Datum { return text(strings.Repeat("a", i%64) + strings.Repeat("b", i/64)) },
		"letters":    func(i int) api.Datum { return text(string([]byte{byte('0' + i/64), byte('0' + i%64)})) },
		"pointers":   func(i int) api.Datum { return pointer(i + 1) },
		"parts":      func(i int) api.Datum { return pointer(1, i%16, i/16%16, i/256) },
		"structs":    func(i int) api.Datum { return record(integer(i/64), integer(i%64)) },
		"more so":    func(i int) api.Datum { return record(float(float64(i/64)), record(text("x"), integer(i%64))) },
		"their types": func(i int) api.Datum {
			return typed("T"+string([]byte{byte('a' + i/16%16), byte('a' + i%16)}), integer(i/256))
		},
	} {
		whole, low := map[uint64]int{}, map[uint64]int{}
		for i := range n {
			h := hash(t, made(i))
			whole[h]++
			low[h%n]++
		}
		if len(whole) < n || len(low) < n/2 {
			t.Errorf("P7.7: %d %s have %d hashes, %d by their lowest bits", n, name, len(whole), len(low))
		}
	}
	all := map[uint64]int{}
	for _, d := range unlike() {
		all[hash(t, d)]++
	}
	if want := len(unlike()); len(all) < want {
		t.Errorf("P7.7: %d unlike ones have %d hashes", want, len(all))
	}
}

// Same looks at all there is, of any two, whether they are right or not.
func TestSame(t *testing.T) {
	var all []api.Datum
	for _, d := range append(ofEachKind(), api.Datum{Kind: 10}, api.Datum{Kind: -3, Type: "\x00"}) {
		all = append(all, d)
		for _, set := range []func(*api.Datum){
			func(d *api.Datum) { d.Type += "x" }, func(d *api.Datum) { d.Kind += 20 }, func(d *api.Datum) { d.N += 100 }, func(d *api.Datum) { d.F ^= 1 << 40 },
			func(d *api.Datum) { d.F ^= minusZero }, func(d *api.Datum) { d.F = oneNaN }, func(d *api.Datum) { d.F = oneNaN + 1 }, func(d *api.Datum) { d.S += "\x00" }, func(d *api.Datum) { d.Ref.Object += 100 },
			func(d *api.Datum) { d.Ref.From += 100 }, func(d *api.Datum) { d.Ref.Len += 100 }, func(d *api.Datum) { d.Ref.Cap += 100 },
			func(d *api.Datum) { d.Ref.Path = append(slices.Clone(d.Ref.Path), 77) }, func(d *api.Datum) { d.Ref.Path = append(slices.Clone(d.Ref.Path), 78) },
			func(d *api.Datum) { d.Ref.Path = append(slices.Clone(d.Ref.Path), 77+256) }, func(d *api.Datum) { d.Ref.Path = append(slices.Clone(d.Ref.Path), 77, 0) }, func(d *api.Datum) { d.Ref.Path = make([]int, 200) },
			func(d *api.Datum) { d.Items = append(slices.Clone(d.Items), none) }, func(d *api.Datum) { d.Items = append(slices.Clone(d.Items), boolean(2)) },
			func(d *api.Datum) { d.Items = append(slices.Clone(d.Items), record(bits(oneNaN+1))) }, func(d *api.Datum) { d.Items = append(slices.Clone(d.Items), record(bits(oneNaN+2))) },
		} {
			other := d
			set(&other)
			all = append(all, other)
		}
	}
	for i, a := range all {
		for j, b := range all {
			if want := i == j; value.Same(a, apart(b)) != want {
				t.Fatalf("P7.8: Same(%s, %s) is not %v", brief(a), brief(b), want)
			}
		}
		wantSame(t, record(none, record(a), none), record(none, record(apart(a)), none), true)
		wantSame(t, record(none, record(a), none), record(none, record(a)), false)
	}
	empty := api.Datum{Kind: api.KStruct, Type: "T", Ref: api.Ref{Path: []int{}}, Items: []api.Datum{}}
	wantSame(t, record(), empty, true)
	wantSame(t, record(record()), record(empty), true)
	wantSame(t, bits(0), bits(minusZero), false)
	wantSame(t, nan, nan, true)
	wantSame(t, list(1, 1), list(1, 1), true)
	wantSame(t, within(60000, integer(1)), within(60000, integer(1)), true)
	wantSame(t, record(list(1, 1), nan), record(list(1, 1), nan), true)
	if value.Same(within(60000, integer(1)), within(60000, integer(2))) {
		t.Error("P7.8: what stands deep is not looked at")
	}
	long := times(100000, text("x"))
	wide := apart(long)
	if !value.Same(long, wide) {
		t.Error("P7.8: two long ones are not the same")
	}
	wide.Items[99999].S = "y"
	if value.Same(long, wide) {
		t.Error("P7.8: what stands last is not looked at")
	}
}

// Each number of a path counts, and each place on it.
func TestEqualPaths(t *testing.T) {
	for n := range 30 {
		for m := range 30 {
			want := "no"
			if n == m {
				want = "yes"
			}
			wantEqual(t, pointer(5, n), pointer(5, m), want)
			wantEqual(t, pointer(5, 7, n, 7), pointer(5, 7, m, 7), want)
		}
	}
	for at := range 100 {
		a, b := pointer(5, make([]int, 100)...), pointer(5, make([]int, 100)...)
		wantEqual(t, a, b, "yes")
		a.Ref.Path[at] = 16
		wantEqual(t, a, b, "no")
		b.Ref.Path[99-at] = 16
		wantEqual(t, a, b, "no")
		wantEqual(t, pointer(5, make([]int, at)...), pointer(5, make([]int, at+1)...), "no")
		wantEqual(t, pointer(5, make([]int, at)...), pointer(5, make([]int, at)...), "yes")
	}
}
