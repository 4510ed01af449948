package heap_test

import (
	"math"
	"slices"
	"strconv"
	"strings"
	"testing"

	"guise/api"
	"guise/heap"
	"guise/value"
)

func TestRead(t *testing.T) {
	h := newZoo(t)
	for _, c := range []struct {
		p    api.Datum
		want string
	}{
		{pointer(zooObject), "T{1 U{2 V{3 nil}} nil T{}}"},
		{typed("U", pointer(zooObject, 1)), "U{2 V{3 nil}}"},
		{typed("V", pointer(zooObject, 1, 1)), "V{3 nil}"},
		{pointer(zooObject, 3), "T{}"},
		{typed("U", pointer(zooOther)), "U{nil}"},
		{pointer(0), "nil pointer"},
		{typed("Nobody", pointer(0)), "nil pointer"},
	} {
		d, err := h.Read(c.p)
		is(t, "P10.2: Read of "+short(c.p), says(t, d, err), c.want)
	}
}

// A path may be as long as structs can stand within one another.
func TestLongPath(t *testing.T) {
	h := heap.New()
	p, err := h.Object(within(99, integer(1)))
	must(t, err)
	for deep := 1; deep < 99; deep++ {
		p, err = h.Part(p, 0, "T")
		must(t, err)
		d, err := h.Read(p)
		must(t, err)
		if len(p.Ref.Path) != deep || !value.Same(d, within(99-deep, integer(1))) {
			t.Fatalf("P10.2: %d deep: %s, %s", deep, short(p), short(d))
		}
	}
	d, err := h.Part(p, 0, "T")
	is(t, "P10.2: a Part that is no struct", says(t, d, err), "wrong")
	must(t, h.Write(p, record()))
	d, err = h.Read(pointer(1))
	is(t, "P10.14: Write into the innermost part", says(t, d, err), short(within(98, record())))
	must(t, h.Write(p, record(none)))
	is(t, "P10.2: one too large", fault(t, h.Write(p, record(none, none))), "count 101")
}

func TestWrite(t *testing.T) {
	whole, part, inner := pointer(zooObject), typed("U", pointer(zooObject, 1)), typed("V", pointer(zooObject, 1, 1))
	for _, c := range []struct {
		p, d api.Datum
		want string // what the object holds then
	}{
		{whole, record(), "T{}"},
		{whole, record(text("x"), list(77, 1)), `T{"x" list@77[0:1:1]}`},
		{whole, sized(100), short(sized(100))},
		{part, typed("U", record()), "T{1 U{} nil T{}}"},
		{part, typed("U", record(none, none, none)), "T{1 U{nil nil nil} nil T{}}"},
		{inner, typed("V", record(record())), "T{1 U{2 V{T{}}} nil T{}}"},
		{inner, typed("V", record(integer(3), none)), "T{1 U{2 V{3 nil}} nil T{}}"},
		{pointer(zooObject, 3), record(pointer(zooObject)), "T{1 U{2 V{3 nil}} nil T{*T@1}}"},
	} {
		h := newZoo(t)
		must(t, h.Write(c.p, c.d))
		d, err := h.Read(whole)
		is(t, "P10.2: Write("+short(c.p)+", "+short(c.d)+")", says(t, d, err), c.want)
		d, err = h.Read(c.p)
		is(t, "P10.2: Read behind Write("+short(c.p)+")", says(t, d, err), short(c.d))
		d, err = h.Read(typed("U", pointer(zooOther)))
		is(t, "P10.2: another object", says(t, d, err), "U{nil}")
	}
}

func TestWriteOfAnotherType(t *testing.T) {
	whole, part, inner := pointer(zooObject), typed("U", pointer(zooObject, 1)), typed("V", pointer(zooObject, 1, 1))
	h := newZoo(t)
	was := dump(t, h)
	for _, c := range []struct {
		d    api.Datum
		have string
	}{
		{none, "nil"}, {boolean(1), "bool"}, {integer(1), "int"}, {nan, "float"}, {text("a"), "text"}, {list(0, 0), "list"}, {list(zooArray, 1), "list"}, {mapping(0), "map"}, {function(77), "func"},
		{typed("T", integer(1)), "T"}, {typed("U", text("")), "U"}, {typed("V", list(0, 0)), "V"}, {typed("T", mapping(3)), "T"}, {typed("V", function(0)), "V"},
		{pointer(0), "*T"}, {pointer(zooObject), "*T"}, {typed("U", pointer(77)), "*U"}, {typed("V", pointer(0)), "*V"},
		{typed("W", record()), "W"}, {typed("t", record()), "t"}, {typed("fault", record()), "fault"},
	} {
		for _, p := range []api.Datum{whole, part, inner} {
			is(t, "P10.2: Write("+short(p)+", "+short(c.d)+")", fault(t, h.Write(p, c.d)), "conversion "+c.have+" is not "+p.Type)
		}
	}
	is(t, "P10.2", fault(t, h.Write(whole, typed("U", record()))), "conversion U is not T")
	is(t, "P10.2", fault(t, h.Write(part, record())), "conversion T is not U")
	is(t, "P10.2: behind faults", dump(t, h), was)
}

// Each reason stands ahead of the next one: what is not right, the fault nil, conversion, count.
func TestFirstReasonOfWrite(t *testing.T) {
	large := record(sized(60), sized(39))
	h := heap.New()
	p, err := h.Object(large)
	must(t, err)
	part := pointer(1, 0)
	for _, c := range []struct {
		p, d api.Datum
		want string
	}{
		{pointer(0), boolean(2), "wrong"},
		{pointer(0), integer(1), "nil pointer"},
		{pointer(0), typed("U", sized(100)), "nil pointer"},
		{pointer(0), record(), "nil pointer"},
		{pointer(2), integer(1), "wrong"},
		{typed("U", pointer(1)), integer(1), "wrong"},
		{p, within(100, none), "wrong"},
		{part, sized(101), "wrong"},
		{part, typed("U", sized(100)), "conversion U is not T"},
		{part, sized(100), "count 140"},
		{part, sized(61), "count 101"},
		{part, sized(60), ""},
	} {
		is(t, "P10.2: Write("+short(c.p)+", "+short(c.d)+")", fault(t, h.Write(c.p, c.d)), c.want)
		if c.want != "" {
			d, err := h.Read(p)
			is(t, "P10.2: behind it", says(t, d, err), short(large))
		}
	}
}

// A Write into a part by which the whole object grows: its whole size counts, wherever the part stands.
func TestGrownByAPart(t *testing.T) {
	for deep := range 20 {
		for _, beside := range []int{0, 1, 30} {
			h := heap.New()
			held := record()
			path := []int{}
			for range deep {
				held = record(append(slices.Repeat([]api.Datum{none}, min(beside, 2)), held)...)
				path = append([]int{min(beside, 2)}, path...)
			}
			p, err := h.Object(held)
			must(t, err)
			around := sizeOf(held) - 1
			p.Ref.Path = path
			for _, size := range []int{1, 2, 99 - around, 100 - around, 101 - around, 100, 3} {
				want := ""
				if size > api.MaxSize {
					want = "wrong"
				} else if around+size > api.MaxSize {
					want = "count " + strconv.Itoa(around+size)
				}
				before, err := h.Read(pointer(1))
				must(t, err)
				is(t, "P10.2: Write of the size "+strconv.Itoa(size)+" within "+strconv.Itoa(around), fault(t, h.Write(p, sized(size))), want)
				after, err := h.Read(pointer(1))
				must(t, err)
				if want != "" && !value.Same(before, after) || want == "" && sizeOf(after) != around+size {
					t.Errorf("P10.2: behind %q: %s, was %s", want, short(after), short(before))
				}
			}
		}
	}
}

func sizeOf(d api.Datum) int {
	n := 1
	for _, item := range d.Items {
		n += sizeOf(item)
	}
	return n
}

// Behind a Write pointers into what stood there fit no more, and again, when it stands there again.
func TestPointersBehindWrite(t *testing.T) {
	h := newZoo(t)
	whole := pointer(zooObject)
	inner := typed("V", pointer(zooObject, 1, 1))
	for _, c := range []struct {
		name string
		p, d api.Datum
	}{
		{"the Item is gone", whole, record(integer(1))},
		{"the Item is no struct", whole, record(none, none)},
		{"the Item is a pointer", whole, record(none, typed("U", pointer(zooObject, 1)))},
		{"the Item within is gone", typed("U", pointer(zooObject, 1)), typed("U", record())},
		{"the Item within is no struct", typed("U", pointer(zooObject, 1)), typed("U", record(none, integer(5)))},
		{"the Item within is of another type", typed("U", pointer(zooObject, 1)), typed("U", record(none, record()))},
	} {
		d, err := h.Read(inner)
		is(t, "P10.2: Read ahead of it", says(t, d, err), "V{3 nil}")
		must(t, h.Write(c.p, c.d))
		was := dump(t, h)
		d, err = h.Read(inner)
		is(t, "P10.2: Read: "+c.name, says(t, d, err), "wrong")
		is(t, "P10.2: Write: "+c.name, fault(t, h.Write(inner, typed("V", record()))), "wrong")
		is(t, "P10.2: Write of another type: "+c.name, fault(t, h.Write(inner, none)), "wrong")
		d, err = h.Part(inner, 0, "T")
		is(t, "P10.2: Part: "+c.name, says(t, d, err), "wrong")
		is(t, "P10.9: Show: "+c.name, h.Show(table(t, declared), inner), "?")
		is(t, "P10.2: behind it", dump(t, h), was)
		must(t, h.Write(whole, zooHeld()))
	}
	// Of a type on the way nothing is asked.
	must(t, h.Write(whole, record(none, record(none, typed("V", record())))))
	d, err := h.Read(inner)
	is(t, "P10.2: Read by a struct of another type", says(t, d, err), "V{}")
	must(t, h.Write(inner, typed("V", record(integer(8)))))
	d, err = h.Read(whole)
	is(t, "P10.14: Write there", says(t, d, err), "T{nil T{nil V{8}}}")
}

func TestPart(t *testing.T) {
	h := newZoo(t)
	was := dump(t, h)
	whole, part, inner := pointer(zooObject), typed("U", pointer(zooObject, 1)), typed("V", pointer(zooObject, 1, 1))
	for _, c := range []struct {
		p     api.Datum
		field int
		name  string
		want  string
	}{
		{whole, 1, "U", "*U@1.1"}, {whole, 3, "T", "*T@1.3"}, {part, 1, "V", "*V@1.1.1"},
		{whole, 0, "int", "wrong"}, {whole, 0, "T", "wrong"}, {whole, 2, "nil", "wrong"}, {whole, 2, "", "wrong"}, {whole, 4, "T", "wrong"}, {whole, -1, "T", "wrong"}, {whole, math.MaxInt, "T", "wrong"}, {whole, math.MinInt, "T", "wrong"}, {whole, 29, "U", "wrong"},
		{whole, 1, "T", "wrong"}, {whole, 1, "", "wrong"}, {whole, 1, "*U", "wrong"}, {whole, 1, "u", "wrong"}, {whole, 3, "U", "wrong"},
		{part, 0, "U", "wrong"}, {part, 1, "U", "wrong"}, {part, 2, "V", "wrong"}, {inner, 0, "V", "wrong"}, {inner, 1, "V", "wrong"}, {pointer(zooObject, 3), 0, "T", "wrong"},
		{pointer(0), 0, "x", "nil field x"}, {pointer(0), -1, "T", "nil field T"}, {pointer(0), math.MaxInt, "*", "nil field *"}, {typed("U", pointer(0)), 1, "V", "nil field V"}, {pointer(0), 0, strings.Repeat("n", 100), "nil field " + strings.Repeat("n", 100)},
		{pointer(77), 0, "x", "wrong"}, {pointer(0, 1), 0, "x", "wrong"}, {none, 0, "x", "wrong"}, {zooHeld(), 1, "U", "wrong"},
	} {
		d, err := h.Part(c.p, c.field, c.name)
		is(t, "P10.2: Part("+short(c.p)+", "+strconv.Itoa(c.field)+", "+c.name+")", says(t, d, err), c.want)
	}
	d, err := h.Part(pointer(0), 0, "")
	if f, is := err.(*api.Fault); !is || f.Word != "nil" || f.More != "field " || !value.Same(d, none) {
		t.Errorf("P10.2: Part of none: %v", err)
	}
	is(t, "P10.2: behind Part", dump(t, h), was)
}

// Parts of structs with as many Items as there can be, and a struct's pointers within it, which are no parts.
func TestPartOfMany(t *testing.T) {
	h := heap.New()
	all := make([]api.Datum, 30)
	for i := range all {
		all[i] = typed(typeNames[i%4], record(integer(i)))
	}
	p, err := h.Object(record(all...))
	must(t, err)
	for i := range all {
		for _, name := range typeNames {
			q, err := h.Part(p, i, name)
			if name != typeNames[i%4] {
				is(t, "P10.2: Part of another type", says(t, q, err), "wrong")
				continue
			}
			must(t, err)
			d, err := h.Read(q)
			is(t, "P10.14: Part", says(t, d, err), short(all[i]))
		}
	}
	q, err := h.Object(record(p, typed("T", integer(1))))
	must(t, err)
	for field := range 2 {
		d, err := h.Part(q, field, "T")
		is(t, "P10.2: Part of what is no struct", says(t, d, err), "wrong")
	}
}

func TestOpenAndSet(t *testing.T) {
	h := newZoo(t)
	other, err := h.Box(text("other"))
	must(t, err)
	for _, d := range slices.Concat(leadless(), nils(), []api.Datum{list(77, 3), pointer(zooObject, 1, 1), mapping(zooMap), function(9), within(99, none)}) {
		if !h.Set(zooVariable, d) {
			t.Fatalf("P10.3: Set(%s) is refused", short(d))
		}
		got, open := h.Open(zooVariable)
		if !open || !value.Same(got, d) {
			t.Errorf("P10.3: Open behind Set(%s): %s, %v", short(d), short(got), open)
		}
		was := dump(t, h)
		for _, bad := range wrong() {
			if h.Set(zooVariable, bad) {
				t.Errorf("P10.3: Set(%s)", short(bad))
			}
		}
		is(t, "P10.3: behind refused Sets", dump(t, h), was)
	}
	was := dump(t, h)
	for _, n := range []int{0, -1, 1, 2, 3, 5, 6, 7, 8, other + 1, api.MaxObjects, math.MaxInt, math.MinInt} {
		if d, open := h.Open(n); open || !value.Same(d, none) {
			t.Errorf("P10.3: Open(%d): %s, %v", n, short(d), open)
		}
		if h.Set(n, integer(1)) || h.Set(n, none) {
			t.Errorf("P10.3: Set(%d)", n)
		}
	}
	is(t, "P10.3: behind Sets of what is no variable", dump(t, h), was)
	if d, _ := h.Open(other); !value.Same(d, text("other")) {
		t.Errorf("P10.3: another variable holds %s", short(d))
	}
	h.Free(other)
	if _, open := h.Open(other); open || h.Set(other, none) {
		t.Error("P10.3: a variable that was forgotten")
	}
}
