package value_test

import (
	"math"
	"strings"
	"testing"

	"guise/api"
	"guise/value"
)

// fields set one thing each that a datum may have or not.
var fields = []struct {
	name string
	set  func(*api.Datum)
}{
	{"N", func(d *api.Datum) { d.N = 1 }},
	{"F", func(d *api.Datum) { d.F = 1 }},
	{"S", func(d *api.Datum) { d.S = "a" }},
	{"Object", func(d *api.Datum) { d.Ref.Object = 1 }},
	{"From", func(d *api.Datum) { d.Ref.From = 1 }},
	{"Len", func(d *api.Datum) { d.Ref.Len = 1 }},
	{"Cap", func(d *api.Datum) { d.Ref.Cap = 9 }},
	{"Path", func(d *api.Datum) { d.Ref.Path = []int{0} }},
	{"Items", func(d *api.Datum) { d.Items = []api.Datum{{}} }},
}

// Each row of the table: what a kind has may be there, all else may not; whatever stands in it otherwise.
func TestEachFieldOfEachKind(t *testing.T) {
	has := []string{"", "N", "N", "F", "S", "Object From Len Cap", "Object", "Object", "Items", "Object Path"}
	for kind, d := range ofEachKind() {
		wantRight(t, d, true)
		for _, f := range fields {
			with := d
			f.set(&with)
			wantRight(t, with, strings.Contains(" "+has[kind]+" ", " "+f.name+" "))
			wantRight(t, record(with), strings.Contains(" "+has[kind]+" ", " "+f.name+" "))
		}
	}
	for _, f := range fields { // of ones that lead to nothing
		for _, d := range []api.Datum{piece(0, 0, 0, 0), mapping(0), function(0), pointer(0)} {
			with := d
			f.set(&with)
			wantRight(t, with, f.name == "Object")
		}
	}
	for _, d := range ofEachKind() { // what is empty is nothing, whether it is nil or not
		d.Ref.Path, d.Items = append(make([]int, 0, 3), d.Ref.Path...), append(make([]api.Datum, 0, 3), d.Items...)
		wantRight(t, d, true)
	}
}

func TestKindsThatThereAreNone(t *testing.T) {
	for _, kind := range []int{-1, -2, -9, 10, 11, 99, math.MinInt64, math.MaxInt64, 1 << 32} {
		for _, name := range append([]string{"", "T", "nil", "struct", "pointer"}, kindNames...) {
			d := api.Datum{Kind: kind, Type: name}
			wantRight(t, d, false)
			wantRight(t, record(integer(1), d), false)
			if v, err := value.Of(d); v != nil || told(t, err) != "wrong" {
				t.Errorf("P7.1: Of(%s): %v, %v", good(d), v, err)
			}
			wantEqual(t, d, d, "wrong")
			wantKey(t, d, "wrong")
			wantSame(t, d, d, true)
		}
	}
}

// A kind has its own name, or a declared one; structs and pointers have a declared one; nil has none.
func TestNamesOfKinds(t *testing.T) {
	for kind, d := range ofEachKind() {
		for _, own := range []string{"bool", "int", "float", "text", "list", "map", "func"} {
			wantRight(t, typed(own, d), kindNames[kind] == own)
			wantRight(t, typed(own+"s", d), kind != api.KNil)
			wantRight(t, typed(strings.ToUpper(own[:1])+own[1:], d), kind != api.KNil)
			wantRight(t, typed("*"+own, d), false)
			wantRight(t, typed(" "+own, d), false)
		}
		wantRight(t, typed("", d), kind == api.KNil)
		for _, name := range []string{"any", "nil", "struct", "pointer", "*T", " ", "a b", "a.b", "1", "1a", "é", "aé", "a\n", "\na", "a\x00", "a*", "a-b", "$a"} {
			wantRight(t, typed(name, d), false)
		}
		for _, name := range []string{"T", "t", "_", "__", "a1", "_1", "Z9", "fault", "error", "main", "if", "for", "type", "true", "protocol",
			"Any", "Nil", "Struct", "Pointer", "ANY", "anyx", "nil_", "struct1", "pointers", "interface", "an", "ni", "struc", "pointe", "in", "integer"} {
			wantRight(t, typed(name, d), kind != api.KNil)
		}
	}
}

func TestBytesOfNames(t *testing.T) {
	const letters = "abcdefghijklmnopqrstuvwxyzABCDEFGHIJKLMNOPQRSTUVWXYZ_"
	for c := range 256 {
		b := string([]byte{byte(c)})
		letter := strings.Contains(letters, b)
		either := strings.Contains(letters+"0123456789", b)
		for _, d := range []api.Datum{integer(5), record(), pointer(1)} {
			wantRight(t, typed(b, d), letter)
			wantRight(t, typed(b+"x", d), letter)
			wantRight(t, typed("x"+b, d), either)
			wantRight(t, typed("x"+b+"x", d), either)
			wantRight(t, typed(strings.Repeat("x", 39)+b, d), either)
			wantRight(t, typed(strings.Repeat("x", 40)+b, d), false)
		}
	}
	for n := range 100 {
		for kind, d := range ofEachKind() {
			wantRight(t, typed(strings.Repeat("n", n), d), kind == api.KNil && n == 0 || kind != api.KNil && n > 0 && n <= 40)
		}
	}
}

func TestBoolsIntsFloatsTexts(t *testing.T) {
	for _, n := range []int{-2, -1, 0, 1, 2, 3, 256, 257, 1 << 32, 1<<32 + 1, math.MinInt64, math.MaxInt64} {
		wantRight(t, boolean(n), n == 0 || n == 1)
		wantRight(t, typed("B", boolean(n)), n == 0 || n == 1)
		wantRight(t, integer(n), true)
		wantRight(t, typed("I", integer(n)), true)
	}
	for _, b := range []uint64{0, minusZero, smallest, smallest | minusZero, greatest, greatest | minusZero, infinity, minusInf, oneNaN, 0x3FF0000000000000} {
		wantRight(t, bits(b), true)
		wantRight(t, typed("F", bits(b)), true)
	}
	for _, b := range otherNaNs {
		wantRight(t, bits(b), false)
		wantRight(t, typed("F", bits(b)), false)
		wantRight(t, record(bits(b)), false)
	}
	for n, want := range map[int]bool{0: true, 1: true, 65535: true, 65536: true, 65537: false, 1000000: false} {
		for _, c := range []string{"a", "\x00", "\xff"} {
			wantRight(t, text(strings.Repeat(c, n)), want)
			wantRight(t, typed("S", text(strings.Repeat(c, n))), want)
			wantRight(t, within(3, text(strings.Repeat(c, n))), want)
		}
	}
}

func TestObjects(t *testing.T) {
	for n, want := range map[int]bool{math.MinInt64: false, -2147483647: false, -1: false, 0: true, 1: true, 2147483646: true, 2147483647: true,
		2147483648: false, 1<<32 + 1: false, math.MaxInt64: false} {
		for _, d := range []api.Datum{list(n, 0), mapping(n), function(n), pointer(n)} {
			wantRight(t, d, want)
			wantRight(t, typed("U", d), want)
			wantRight(t, record(d), want)
		}
		wantRight(t, list(n, 3), want && n != 0)
		wantRight(t, pointer(n, 3), want && n != 0)
	}
}

func TestPieces(t *testing.T) {
	const room, most, least = 1048576, math.MaxInt64, math.MinInt64
	for _, c := range []struct {
		from, length, room int
		want               bool
	}{
		{0, 0, 0, true}, {0, 0, 1, true}, {0, 1, 1, true}, {0, 1, 0, false}, {5, 2, 1, false}, {5, 2, 2, true}, {5, 2, 3, true},
		{0, 0, room, true}, {0, room, room, true}, {0, room - 1, room, true}, {0, room + 1, room, false}, {0, 0, room + 1, false}, {0, room + 1, room + 1, false},
		{room, 0, 0, true}, {room, 0, 1, false}, {room, 1, 1, false}, {room + 1, 0, 0, false}, {1, 0, room - 1, true}, {1, 0, room, false},
		{room - 1, 1, 1, true}, {room - 1, 0, 2, false}, {room / 2, room / 2, room / 2, true}, {room / 2, 0, room/2 + 1, false}, {room/2 + 1, 0, room / 2, false},
		{-1, 0, 0, false}, {0, -1, 0, false}, {0, 0, -1, false}, {0, -1, -1, false}, {-1, 0, room + 1, false}, {-5, 1, 5, false}, {room + 1, 0, -1, false},
		{most, 0, most, false}, {most, 0, 1, false}, {1, 0, most, false}, {most, 0, 0, false}, {0, 0, most, false}, {0, most, most, false}, {most, most, most, false},
		{least, 0, least, false}, {least, 0, most, false}, {most, least, least, false}, {0, least, 0, false}, {1 << 62, 0, 1 << 62, false}, {1 << 63 >> 1, 0, 0, false},
	} {
		for _, object := range []int{1, 77, 2147483647} {
			d := piece(object, c.from, c.length, c.room)
			wantRight(t, d, c.want)
			wantRight(t, typed("L", d), c.want)
			wantRight(t, record(d, none), c.want)
		}
		zero := c.from == 0 && c.length == 0 && c.room == 0
		wantRight(t, piece(0, c.from, c.length, c.room), zero)
		wantRight(t, piece(-1, c.from, c.length, c.room), false)
		wantRight(t, piece(2147483648, c.from, c.length, c.room), false)
	}
}

func TestPaths(t *testing.T) {
	long := func(n, step int) []int {
		path := make([]int, n)
		for i := range path {
			path[i] = step
		}
		return path
	}
	for n, want := range map[int]bool{0: true, 1: true, 2: true, 99: true, 100: true, 101: false, 102: false, 5000: false} {
		for _, step := range []int{0, 1, 29} {
			wantRight(t, pointer(1, long(n, step)...), want)
			wantRight(t, pointer(2147483647, long(n, step)...), want)
			wantRight(t, within(5, pointer(1, long(n, step)...)), want)
			wantRight(t, pointer(0, long(n, step)...), n == 0)
		}
	}
	for step, want := range map[int]bool{math.MinInt64: false, -1: false, 0: true, 1: true, 28: true, 29: true, 30: false, 31: false, 255: false, 256: false, 257: false, 1 << 32: false, math.MaxInt64: false} {
		for _, n := range []int{1, 2, 50, 100} {
			for _, at := range []int{0, n / 2, n - 1} {
				path := long(n, 3)
				path[at] = step
				wantRight(t, pointer(9, path...), want)
			}
		}
	}
}

func TestStructs(t *testing.T) {
	for n := range 40 {
		for _, d := range []api.Datum{none, integer(3), text("a"), list(1, 1), pointer(0)} {
			wantRight(t, times(n, d), n <= 30)
			wantRight(t, within(2, times(n, d)), n <= 30)
		}
	}
	wantRight(t, times(31, api.Datum{Kind: 10}), false)
	for at := range 30 { // each item must be right
		for _, wrong := range []api.Datum{{Kind: 10}, {Kind: -1}, {Type: "T"}, boolean(2), typed("", integer(1)), bits(oneNaN + 1), text(strings.Repeat("a", 65537)), piece(1, 0, 1, 0),
			mapping(-1), function(-1), typed("any", record()), pointer(0, 1), times(31, none), record(boolean(2))} {
			d := times(30, none)
			d.Items[at] = wrong
			wantRight(t, d, false)
			wantRight(t, record(none, d, none), false)
			d.Items[at] = text("right")
			wantRight(t, d, true)
		}
	}
}

// A size is 1, and those of the items.
func TestSizes(t *testing.T) {
	for deep := range 140 {
		wantRight(t, within(deep, record()), deep+1 <= 100)
		wantRight(t, within(deep, none), deep+1 <= 100)
		wantRight(t, within(deep, integer(1)), deep+1 <= 100)
		wantRight(t, within(deep, list(1, 1000)), deep+1 <= 100)
		wantRight(t, within(deep, record(none, none, none)), deep+4 <= 100)
		wantRight(t, within(deep, times(30, boolean(1))), deep+31 <= 100)
	}
	for wide := range 31 {
		for each := range 8 {
			d := times(wide, times(each, none))
			wantRight(t, d, 1+wide*(1+each) <= 100)
			wantRight(t, record(d, none), 3+wide*(1+each) <= 100)
		}
	}
	just := record(times(30, none), times(30, integer(1)), times(30, pointer(1)), record(none, none, none), none, none) // 1 + 31 + 31 + 31 + 4 + 2
	wantRight(t, just, true)
	wantRight(t, record(append(just.Items, none)...), false)
	wantRight(t, record(just), false)
	uneven := record(none)
	for range 48 { // two more each time
		uneven = record(none, uneven)
	}
	wantRight(t, uneven, true)
	wantRight(t, record(record(uneven)), true)
	wantRight(t, record(none, record(uneven)), false)
}

// Whatever is too large is not looked at to its end: also not if there is none.
func TestTooLarge(t *testing.T) {
	deep := within(60000, integer(1))
	wide := within(1, none)
	for range 40 { // 30 times as many items each time, in the same memory
		wide = times(30, wide)
	}
	ring := record(integer(1), none)
	ring.Items[1] = ring
	for _, d := range []api.Datum{deep, wide, ring, record(none, ring), times(1000000, none)} {
		if value.Right(d) {
			t.Errorf("Words: a datum that is too large is right")
		}
		if v, err := value.Of(d); v != nil || told(t, err) != "wrong" {
			t.Errorf("P7.1: %v, %v", v, err)
		}
		for _, other := range []api.Datum{d, integer(1), record()} {
			if is, err := value.Equal(d, other); is || told(t, err) != "wrong" {
				t.Errorf("P7.5: %v, %v", is, err)
			}
			if is, err := value.Equal(other, d); is || told(t, err) != "wrong" {
				t.Errorf("P7.5: %v, %v", is, err)
			}
		}
		if err := value.Key(d); told(t, err) != "wrong" {
			t.Errorf("P7.6: %v", err)
		}
		if h, err := value.Hash(d); h != 0 || told(t, err) != "wrong" {
			t.Errorf("P7.7: %v, %v", h, err)
		}
	}
}
