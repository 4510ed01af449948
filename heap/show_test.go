package heap_test

import (
	"math"
	"strconv"
	"strings"
	"testing"

	"guise/api"
	"guise/heap"
)

func TestShow(t *testing.T) {
	h, known := newZoo(t), table(t, declared)
	quote := strconv.Quote
	for _, c := range []struct {
		d    api.Datum
		want string
	}{
		{none, "nil"}, {boolean(0), "false"}, {boolean(1), "true"}, {integer(0), "0"}, {integer(math.MinInt64), "-9223372036854775808"}, {float(1), "0x3ff0000000000000"}, {bits(minusZero), "0x8000000000000000"}, {nan, "nan"}, {text(""), `""`}, {text(`a"b`), quote(`a"b`)}, {text("a\nb\\"), quote("a\nb\\")},
		{typed("A", boolean(1)), "A(true)"}, {typed("A", integer(-5)), "A(-5)"}, {typed("A", nan), "A(nan)"}, {typed("A", text("x")), `A("x")`},
		{list(0, 0), "nil(list)"}, {mapping(0), "nil(map)"}, {function(0), "nil(func)"}, {pointer(0), "nil(*T)"}, {typed("L", list(0, 0)), "nil(L)"}, {typed("M", mapping(0)), "nil(M)"}, {typed("F", function(0)), "nil(F)"}, {typed("Nobody", pointer(0)), "nil(*Nobody)"},
		{list(zooEmpty, 0), "[]"}, {typed("L", list(zooEmpty, 0)), "L([])"}, {piece(zooArray, 2, 0, 3), "[]"}, {piece(zooArray, 2, 1, 3), "[12]"}, {list(zooArray, 5), "[10, 11, 12, 13, 14]"}, {typed("K", piece(zooArray, 3, 2, 2)), "K([13, 14])"},
		{mapping(zooMap), `map{1: "a", nil: [10, 11, 12, 13, 14]}`}, {typed("M", mapping(zooMap)), `M(map{1: "a", nil: [10, 11, 12, 13, 14]})`},
		{function(zooFunction), "func"}, {typed("F", function(zooFunction)), "F(func)"},
		{pointer(zooObject), "&T{a: 1, b: U{x: 2, V: V{z: 3, 1: nil}}, 2: nil, 3: T{}}"}, {typed("U", pointer(zooObject, 1)), "&U{x: 2, V: V{z: 3, 1: nil}}"}, {typed("V", pointer(zooObject, 1, 1)), "&V{z: 3, 1: nil}"}, {pointer(zooObject, 3), "&T{}"}, {typed("U", pointer(zooOther)), "&U{x: nil}"},
	} {
		is(t, "P10.9: Show of "+short(c.d), h.Show(known, c.d), c.want)
	}
}

// The fields' names that the table tells: of as many Items as there are names; of the others, and of types that it does not know, numbers.
func TestShowFields(t *testing.T) {
	h, known := heap.New(), table(t, declared)
	ten := record(integers(0, 1, 2, 3, 4, 5, 6, 7, 8, 9, 10)...)
	for _, c := range []struct {
		d    api.Datum
		want string
	}{
		{record(), "T{}"}, {record(none), "T{a: nil}"}, {record(none, none), "T{a: nil, b: nil}"}, {record(none, none, none, integer(5)), "T{a: nil, b: nil, 2: nil, 3: 5}"},
		{typed("U", record(none, typed("V", record(none)), none)), "U{x: nil, V: V{z: nil}, y: nil}"},
		{typed("Nobody", record(none, integer(1))), "Nobody{0: nil, 1: 1}"}, {typed("Nobody", record()), "Nobody{}"},
		{typed("K", record(integer(1))), "K{0: 1}"}, {typed("W", record(integer(1))), "W{0: 1}"}, // a type of another kind, a protocol
		{typed("fault", record(text("nil"), text("map"), none)), `fault{word: "nil", more: "map", 2: nil}`}, {typed("error", record(none)), "error{0: nil}"}, {typed("Fault", record(none)), "Fault{0: nil}"},
		{ten, "T{a: 0, b: 1, 2: 2, 3: 3, 4: 4, 5: 5, 6: 6, 7: 7, 8: 8, 9: 9, 10: 10}"},
		{typed("Ten", ten), "Ten{0: 0, 1: 1, 2: 2, 3: 3, 4: 4, 5: 5, 6: 6, 7: 7, 8: 8, 9: 9, 10: 10}"},
	} {
		is(t, "P10.9: Show of "+short(c.d), h.Show(known, c.d), c.want)
	}
	bare := table(t, "func main() { }")
	is(t, "P10.9: another table", h.Show(bare, record(integer(1), none)), "T{0: 1, 1: nil}")
	is(t, "P10.9: fault is there from the beginning", h.Show(bare, typed("fault", record(none))), "fault{word: nil}")
	is(t, "P10.9: no table", h.Show(nil, record(integer(1))), "T{0: 1}")
	other := table(t, "type T struct { first; second; third }\nfunc main() { }")
	is(t, "P10.9: another table", h.Show(other, record(integer(1), none)), "T{first: 1, second: nil}")
}

// What is not right, or does not fit: a `?` in its place.
func TestShowOfWrong(t *testing.T) {
	h, known := newZoo(t), table(t, declared)
	for _, d := range wrong() {
		is(t, "P10.9: Show of "+short(d), h.Show(known, d), "?")
	}
	for _, kind := range []int{api.KPointer, api.KList, api.KMap, api.KFunc} {
		for _, d := range unfit(kind) {
			is(t, "P10.9: Show of "+short(d), h.Show(known, d), "?")
			is(t, "P10.9: Show of it in a struct", h.Show(known, record(integer(1), d)), "T{a: 1, b: ?}")
			l, err := h.List([]api.Datum{none, d, none})
			must(t, err)
			is(t, "P10.9: Show of it in a list", h.Show(known, l), "[nil, ?, nil]")
			m := h.Map()
			must(t, h.Lay(m, text("v"), d))
			if kind == api.KPointer {
				must(t, h.Lay(m, d, integer(1)))
				is(t, "P10.9: Show of it in a map", h.Show(known, m), `map{"v": ?, ?: 1}`)
			} else {
				is(t, "P10.9: Show of it in a map", h.Show(known, m), `map{"v": ?}`)
			}
			p, err := h.Object(record(d))
			must(t, err)
			is(t, "P10.9: Show of it in an object", h.Show(known, p), "&T{a: ?}")
			for n := zooNext; n < zooNext+400; n++ {
				h.Free(n)
			}
		}
		h = newZoo(t)
	}
}

// nests lay a datum within another one: of each kind, with how many that are (a pointer and its struct are two).
func nests() []struct {
	name        string
	count       int
	ahead, tail string
	lay         func(t *testing.T, h store, d api.Datum) api.Datum
} {
	type nest = struct {
		name        string
		count       int
		ahead, tail string
		lay         func(t *testing.T, h store, d api.Datum) api.Datum
	}
	made := func(t *testing.T, d api.Datum, err error) api.Datum {
		t.Helper()
		must(t, err)
		return d
	}
	return []nest{
		{"list", 1, "[", "]", func(t *testing.T, h store, d api.Datum) api.Datum {
			l, err := h.List([]api.Datum{d})
			return made(t, l, err)
		}},
		{"declared list", 1, "L([", "])", func(t *testing.T, h store, d api.Datum) api.Datum {
			l, err := h.List([]api.Datum{d})
			return typed("L", made(t, l, err))
		}},
		{"map", 1, "map{7: ", "}", func(t *testing.T, h store, d api.Datum) api.Datum {
			m := h.Map()
			must(t, h.Lay(m, integer(7), d))
			return m
		}},
		{"struct", 1, "T{a: 1, b: ", "}", func(t *testing.T, h store, d api.Datum) api.Datum { return record(integer(1), d) }},
		{"pointer", 2, "&T{a: ", "}", func(t *testing.T, h store, d api.Datum) api.Datum {
			p, err := h.Object(record(d))
			return made(t, p, err)
		}},
		{"pointer to a part", 2, "&U{x: ", "}", func(t *testing.T, h store, d api.Datum) api.Datum {
			p, err := h.Object(record(none, typed("U", record(d))))
			p.Ref.Path, p.Type = []int{1}, "U"
			return made(t, p, err)
		}},
	}
}

// inners are what stands innermost: how it is shown within so many others that it is shown, and within eight.
func inners(t *testing.T, h store) []struct {
	name        string
	d           api.Datum
	shown, deep string
} {
	t.Helper()
	type inner = struct {
		name        string
		d           api.Datum
		shown, deep string
	}
	out := []inner{
		{"nil", none, "nil", "nil"}, {"bool", boolean(1), "true", "true"}, {"int", integer(5), "5", "5"}, {"float", nan, "nan", "nan"}, {"text", text("x"), `"x"`, `"x"`}, {"declared int", typed("A", integer(5)), "A(5)", "A(5)"},
		{"nil list", list(0, 0), "nil(list)", "nil(list)"}, {"nil map", mapping(0), "nil(map)", "nil(map)"}, {"nil func", function(0), "nil(func)", "nil(func)"}, {"nil pointer", pointer(0), "nil(*T)", "nil(*T)"}, {"declared nil list", typed("L", list(0, 0)), "nil(L)", "nil(L)"},
		{"list that does not fit", list(1<<20, 0), "?", "?"}, {"map that does not fit", mapping(1 << 20), "?", "?"}, {"func that does not fit", function(1 << 20), "?", "?"}, {"pointer that does not fit", pointer(1 << 20), "?", "?"},
		{"struct", record(), "T{}", ".."}, {"struct of some", record(integer(1), none), "T{a: 1, b: nil}", ".."}, {"unknown struct", typed("Nobody", record()), "Nobody{}", ".."},
	}
	l, err := h.List(nil)
	must(t, err)
	full, err := h.List(integers(1, 2))
	must(t, err)
	m := h.Map()
	f, err := h.Func(1, nil, nil)
	must(t, err)
	p, err := h.Object(record())
	must(t, err)
	return append(out, inner{"list", l, "[]", ".."}, inner{"list of some", full, "[1, 2]", ".."}, inner{"piece of none", piece(full.Ref.Object, 1, 0, 0), "[]", ".."}, inner{"declared list", typed("L", l), "L([])", ".."}, inner{"map", m, "map{}", ".."}, inner{"declared map", typed("M", m), "M(map{})", ".."},
		inner{"func", f, "func", "func"}, inner{"declared func", typed("F", f), "F(func)", "F(func)"}, inner{"pointer", p, "&T{}", ".."}, inner{"pointer of another type", typed("U", p), "?", "?"})
}

// Within seven, eight and nine others, of each kind.
func TestWithinOthers(t *testing.T) {
	known := table(t, declared)
	for _, n := range nests() {
		h := heap.New()
		for _, c := range inners(t, h) {
			d, around := c.d, 0
			ahead, tail := "", ""
			for around < 12 {
				want := ahead + c.shown + tail
				switch {
				case around == 7 && c.name == "pointer":
					want = ahead + "&.." + tail // its struct stands within eight
				case around == 8:
					want = ahead + c.deep + tail
				case around > 8:
					// What stands within eight of these is no more than `..`, whatever is in it. Of a pointer with one more around it, it is its struct.
					times := 8 / n.count
					want = strings.Repeat(n.ahead, times) + ".." + strings.Repeat(n.tail, times)
				}
				is(t, "P10.9: "+c.name+" within "+strconv.Itoa(around)+" of "+n.name, h.Show(known, d), want)
				d = n.lay(t, h, d)
				around += n.count
				ahead, tail = ahead+n.ahead, n.tail+tail
			}
		}
	}
}

// A pointer and its struct are two: with a list around all, it is the pointer's struct that stands within eight.
func TestPointersWithinOthers(t *testing.T) {
	h, known := heap.New(), table(t, declared)
	d, err := h.Object(record())
	must(t, err)
	for around := range 8 {
		inner := "T{}"
		if around == 7 {
			inner = ".."
		}
		is(t, "P10.9: a pointer within "+strconv.Itoa(around), h.Show(known, d), strings.Repeat("[", around)+"&"+inner+strings.Repeat("]", around))
		d, err = h.List([]api.Datum{d})
		must(t, err)
	}
	is(t, "P10.9: a pointer within 8", h.Show(known, d), strings.Repeat("[", 8)+".."+strings.Repeat("]", 8))

	p, err := h.Object(record(none))
	must(t, err)
	must(t, h.Write(p, record(p)))
	is(t, "P10.9: a pointer to itself", h.Show(known, p), strings.Repeat("&T{a: ", 4)+".."+strings.Repeat("}", 4))
	l, err := h.List([]api.Datum{p})
	must(t, err)
	is(t, "P10.9: a pointer to itself in a list", h.Show(known, l), "["+strings.Repeat("&T{a: ", 3)+"&.."+strings.Repeat("}", 3)+"]")
	is(t, "P10.9: what it points to", h.Show(known, record(p)), "T{a: "+strings.Repeat("&T{a: ", 3)+"&.."+strings.Repeat("}", 4))
}

// Keys count as values do.
func TestKeysWithinOthers(t *testing.T) {
	h, known := heap.New(), table(t, declared)
	m := h.Map()
	must(t, h.Lay(m, record(record(none)), m))
	must(t, h.Lay(m, integer(1), pointer(0)))
	want := ".."
	for around := 7; around >= 0; around-- {
		key := map[int]string{7: "..", 6: "T{a: ..}"}[around]
		if key == "" {
			key = "T{a: T{a: nil}}"
		}
		want = "map{" + key + ": " + want + ", 1: nil(*T)}"
	}
	is(t, "P10.9: a map with structs as keys", h.Show(known, m), want)
}

// What stands beside one another does not count.
func TestBesideOneAnother(t *testing.T) {
	h, known := heap.New(), table(t, declared)
	var all []api.Datum
	for range 20 {
		l, err := h.List(integers(1))
		must(t, err)
		all = append(all, l, record())
	}
	l, err := h.List(all)
	must(t, err)
	is(t, "P10.9: twenty beside one another", h.Show(known, l), "["+strings.Repeat("[1], T{}, ", 19)+"[1], T{}]")
}

// What has just MaxText bytes, one more, and many more: it is cut off behind 65537.
func TestShowOfMany(t *testing.T) {
	h, known := heap.New(), table(t, declared)
	check := func(name string, d api.Datum, ahead, tail string, whole int) {
		t.Helper()
		got := h.Show(known, d)
		if len(got) != min(whole, api.MaxText+1) || !strings.HasPrefix(got, ahead) || whole <= api.MaxText+1 && !strings.HasSuffix(got, tail) {
			t.Errorf("P10.9: %s: %d bytes, must be %d of %d: %.40s .. %s", name, len(got), min(whole, api.MaxText+1), whole, got, got[max(0, len(got)-20):])
		}
	}
	for _, n := range []int{api.MaxText - 3, api.MaxText - 2, api.MaxText - 1, api.MaxText} {
		check("a text", text(strings.Repeat("a", n)), `"aaa`, `aaa"`, n+2)
	}
	for _, n := range []int{api.MaxText - 6, api.MaxText - 5, api.MaxText - 4, api.MaxText - 3} {
		check("a text of a declared type", typed("A", text(strings.Repeat("a", n))), `A("aaa`, `aaa")`, n+5)
		l, err := h.List([]api.Datum{text(strings.Repeat("a", n-1)), none})
		must(t, err)
		check("a list", l, `["aaa`, `a", nil]`, n+8)
		check("a list of a declared type", typed("K", l), `K(["aaa`, `a", nil])`, n+11)
		check("a struct", record(text(strings.Repeat("a", n-5)), none), `T{a: "aaa`, `a", b: nil}`, n+11)
		m := h.Map()
		must(t, h.Lay(m, text(strings.Repeat("k", n/2)), text(strings.Repeat("v", n-n/2-4))))
		check("a map", m, `map{"kkk`, `vv"}`, n+7)
		p, err := h.Object(record(text(strings.Repeat("a", n-4))))
		must(t, err)
		check("a pointer", p, `&T{a: "aaa`, `a"}`, n+5)
	}
	for around := range 9 { // the cut is of all that is shown
		d := text(strings.Repeat("a", api.MaxText-2-around))
		for range around {
			l, err := h.List([]api.Datum{d})
			must(t, err)
			d = l
		}
		check("lists in lists", d, strings.Repeat("[", around)+`"a`, `"`+strings.Repeat("]", around), api.MaxText+around)
	}
	check("quoted bytes", text(strings.Repeat("\x00", api.MaxText)), `"\`, "", 4*api.MaxText)
}

// Very much of it: nothing goes on behind the cut, however often a thing leads to others.
func TestShowEnds(t *testing.T) {
	h, known := heap.New(), table(t, declared)
	l, err := h.List(make([]api.Datum, 100000))
	must(t, err)
	for i := range 100000 {
		must(t, h.Put(l, i, l))
	}
	got := h.Show(known, l)
	if len(got) != api.MaxText+1 || !strings.HasPrefix(got, "[[[[[[[[.., .., ..") || strings.Trim(got[8:], "., ") != "" {
		t.Errorf("P10.9: a list of itself: %d bytes, %.40s", len(got), got)
	}
	m := h.Map()
	for i := range 20000 {
		must(t, h.Lay(m, integer(i), m))
	}
	got = h.Show(known, m)
	if len(got) != api.MaxText+1 || !strings.HasPrefix(got, strings.Repeat("map{0: ", 8)+".., 1: ..") {
		t.Errorf("P10.9: a map of itself: %d bytes, %.80s", len(got), got)
	}
	p, err := h.Object(times(30, none))
	must(t, err)
	must(t, h.Write(p, times(30, p)))
	got = h.Show(known, p)
	if len(got) != api.MaxText+1 || !strings.HasPrefix(got, strings.Repeat("&T{a: ", 4)+".., b: .., 2: ..") {
		t.Errorf("P10.9: an object of itself: %d bytes, %.80s", len(got), got)
	}
	long, err := h.List([]api.Datum{text(strings.Repeat("\x01", api.MaxText)), list(l.Ref.Object, 100000), m})
	must(t, err)
	all, err := h.List(make([]api.Datum, 1000))
	must(t, err)
	for i := range 1000 {
		must(t, h.Put(all, i, long))
	}
	got = h.Show(known, all)
	if len(got) != api.MaxText+1 {
		t.Errorf("P10.9: a list of long ones: %d bytes, %.40s", len(got), got)
	}
}
