package assert_test

import (
	"math"
	"strings"
	"testing"

	"guise/api"
	"guise/assert"
)

// nested: ways of several fields to Core (x, y, v, *p), all by value (Out), with a pointer at the first place (First), at a middle one
// (Middle) and at the last one (Last); and to protocols (Gives: w, by Holder, Farther and Behind).
const nested = `
protocol Gives { w(2) }
type Core struct { x; y }
func (c Core) v() {}
func (c *Core) p(u) {}
type In struct { a; .Core }
type Mid struct { b; .In }
type Out struct { .Mid; z }
type First struct { c; .*Mid }
type Pin struct { d; .*In }
type Middle struct { e; .Pin }
type Dot struct { .*Core }
type Inner struct { g; .Dot }
type Last struct { h; i; .Inner }
type Holder struct { j; .Gives }
type Farther struct { .Holder }
type Behind struct { .*Holder }
type Both struct { .Left; .Right }
type Left struct { x; only }
type Right struct { x }
func (l Left) m() {}
func (r *Right) m() {}
type Mixed struct { .Left; .Named }
type Named struct { k }
func (n Named) x() {}
type Row = list
func (r Row) n() {}
`

// By value all the way: what stands there is told by its path, and nothing is nil.
func TestSelectByValue(t *testing.T) {
	x := table(t, nested)
	core, out := zero(t, x, "Core"), zero(t, x, "Out")
	wantSelect(t, x, core, "x", "field 0")
	wantSelect(t, x, core, "y", "field 1")
	wantSelect(t, x, core, "v", "method  Core/0")
	wantSelect(t, x, core, "p", "missing|p of Core")
	wantSelect(t, x, core, "w", "missing|w of Core")
	wantSelect(t, x, out, "x", "field 0.1.1.0")
	wantSelect(t, x, out, "a", "field 0.1.0")
	wantSelect(t, x, out, "z", "field 1")
	wantSelect(t, x, out, "Mid", "field 0")
	wantSelect(t, x, out, "Core", "field 0.1.1")
	wantSelect(t, x, out, "v", "method 0.1.1 Core/0")
	wantSelect(t, x, out, "p", "missing|p of Out")
}

// Of a pointer to an object all is found, whatever lies behind it; also by a Path, and where the Ref is not right.
func TestSelectOfPointers(t *testing.T) {
	x := table(t, nested)
	for _, object := range []int{1, 2, api.MaxObjects, math.MaxInt, -1, math.MinInt, 1 << 32} {
		for _, path := range [][]int{nil, {0}, {1, 2, 3}, {-1}} {
			wantSelect(t, x, pointer("Core", object, path...), "x", "field 0")
			wantSelect(t, x, pointer("Core", object, path...), "v", "method  Core/0")
			wantSelect(t, x, pointer("Core", object, path...), "p", "method  *Core/1")
			wantSelect(t, x, pointer("Core", object, path...), "q", "missing|q of *Core")
			wantSelect(t, x, pointer("Out", object, path...), "p", "method 0.1.1 *Core/1")
			wantSelect(t, x, pointer("Last", object, path...), "x", "field 2.1.0.0")
			wantSelect(t, x, pointer("Last", object, path...), "v", "method 2.1.0 Core/0")
			wantSelect(t, x, pointer("Farther", object, path...), "w", "protocol 0.1 Gives/2")
			wantSelect(t, x, pointer("Both", object, path...), "m", "missing|m of *Both twice")
		}
	}
	// items behind a pointer are no items of a struct
	d := with(zero(t, x, "First"), nilOf("Mid"), 1)
	d.Kind, d.Ref.Object = api.KPointer, 5
	wantSelect(t, x, d, "x", "field 1.1.1.0")
	d = zero(t, x, "Holder")
	d.Kind, d.Ref.Object = api.KPointer, 5
	wantSelect(t, x, d, "w", "protocol 1 Gives/2")
}

// A pointer to none: no field, and no method but one that takes just this pointer.
func TestSelectOfPointersToNone(t *testing.T) {
	x := table(t, nested)
	odd := api.Datum{Kind: api.KPointer, Type: "Core", N: 1, S: "s", Ref: api.Ref{From: 1, Len: 2, Cap: 3, Path: []int{1}}, Items: []api.Datum{none}}
	for _, d := range []api.Datum{nilOf("Core"), pointer("Core", 0, 1, 2), odd} {
		wantSelect(t, x, d, "x", "nil|field x")
		wantSelect(t, x, d, "y", "nil|field y")
		wantSelect(t, x, d, "v", "nil|method v")
		wantSelect(t, x, d, "p", "method  *Core/1")
		wantSelect(t, x, d, "q", "missing|q of *Core")
	}
	for _, name := range []string{"Out", "First", "Middle", "Last", "In", "Dot"} {
		wantSelect(t, x, nilOf(name), "x", "nil|field x")
		wantSelect(t, x, nilOf(name), "Core", "nil|field Core")
		wantSelect(t, x, nilOf(name), "v", "nil|method v")
		wantSelect(t, x, nilOf(name), "p", "nil|method p") // it has a path
	}
	for _, name := range []string{"Holder", "Farther", "Behind"} {
		wantSelect(t, x, nilOf(name), "w", "nil|method w")
		wantSelect(t, x, nilOf(name), "Gives", "nil|field Gives")
	}
	wantSelect(t, x, nilOf("fault"), "Error", "method  *fault/0")
	wantSelect(t, x, nilOf("fault"), "word", "nil|field word")
	wantSelect(t, x, zero(t, x, "fault"), "Error", "missing|Error of fault")
	wantSelect(t, x, zero(t, x, "fault"), "more", "field 1")
}

// A pointer to none on the way, at its first, a middle, and its last place.
func TestSelectThroughEmbeddedPointers(t *testing.T) {
	x := table(t, nested)
	for _, c := range []struct {
		name string
		at   []int // where the pointer stands
		to   string
		path string // to Core
	}{
		{"First", []int{1}, "Mid", "1.1.1"},
		{"Middle", []int{1, 1}, "In", "1.1.1"},
		{"Last", []int{2, 1, 0}, "Core", "2.1.0"},
	} {
		d := zero(t, x, c.name)
		wantSelect(t, x, d, "x", "nil|field x")
		wantSelect(t, x, d, "y", "nil|field y")
		wantSelect(t, x, d, "v", "nil|method v")
		wantSelect(t, x, d, c.to, "field "+digits(c.at)) // the pointer itself
		last := c.name == "Last"
		if last {
			wantSelect(t, x, d, "p", "method "+c.path+" *Core/1")
		} else {
			wantSelect(t, x, d, "p", "nil|method p")
			wantSelect(t, x, d, "Core", "nil|field Core")
		}
		for _, object := range []int{1, -1, math.MaxInt} {
			d = with(d, pointer(c.to, object), c.at...)
			wantSelect(t, x, d, "x", "field "+c.path+".0")
			wantSelect(t, x, d, "v", "method "+c.path+" Core/0")
			wantSelect(t, x, d, "p", "method "+c.path+" *Core/1")
			wantSelect(t, x, d, c.to, "field "+digits(c.at))
		}
	}
}

// Any item of the way counts, whatever the fields say: a pointer to none through which, or at which, it leads; at the end it may be the field itself.
func TestSelectOfItemsThatAreNotAsTheFieldsSay(t *testing.T) {
	x := table(t, nested)
	out := zero(t, x, "Out")
	ways := [][]int{{0}, {0, 1}, {0, 1, 1}}
	for _, way := range ways {
		for _, to := range []string{"Mid", "In", "Core", "nobody", "", "int"} {
			d := with(out, nilOf(to), way...)
			wantSelect(t, x, d, "x", "nil|field x")
			wantSelect(t, x, d, "v", "nil|method v")
		}
		wantSelect(t, x, with(out, pointer("Core", 0, 4), way...), "x", "nil|field x")
	}
	for _, way := range [][]int{{0, 1, 1, 0}, {0, 1, 1, 1}, {0, 1, 0}, {0, 0}, {1}} {
		d := with(out, nilOf("Core"), way...)
		wantSelect(t, x, d, "x", "field 0.1.1.0")
		wantSelect(t, x, d, "v", "method 0.1.1 Core/0")
		wantSelect(t, x, d, "z", "field 1")
	}
	// of the fields that stand there: those ahead on the way, not those beside it
	d := with(out, nilOf("In"), 0, 1)
	wantSelect(t, x, d, "b", "field 0.0")
	wantSelect(t, x, d, "In", "field 0.1")
	wantSelect(t, x, d, "a", "nil|field a")
	wantSelect(t, x, d, "Core", "nil|field Core")
	// what is no struct, and no pointer to none, ends the way, and no more is said
	list := typed(api.KList, "list")
	list.Items = []api.Datum{nilOf("In"), nilOf("In")}
	for _, item := range []api.Datum{none, integer(1), text("a"), list, typed(api.KMap, "Mid"), typed(api.KFunc, "Core"), typed(77, "Core"), typed(-1, ""), {Items: []api.Datum{nilOf("a"), nilOf("b")}}, pointer("Mid", 3), pointer("Mid", -3),
		{Kind: api.KPointer, Type: "Mid", Ref: api.Ref{Object: 1}, Items: []api.Datum{nilOf("In"), nilOf("In")}}} {
		for _, way := range ways {
			d := with(out, item, way...)
			wantSelect(t, x, d, "x", "field 0.1.1.0")
			wantSelect(t, x, d, "v", "method 0.1.1 Core/0")
		}
	}
	// a struct of another type leads on
	d = with(out, record("int", none, record("", none, nilOf("?"))), 0)
	wantSelect(t, x, d, "v", "nil|method v")
	wantSelect(t, x, d, "Core", "field 0.1.1")
	d = with(out, record("int", nilOf("?"), record("", nilOf("?"), none)), 0)
	wantSelect(t, x, d, "v", "method 0.1.1 Core/0")
}

// Structs with fewer Items than their type has fields, and with more: a way ends where there is no item of the next number.
func TestSelectOfFewerItems(t *testing.T) {
	x := table(t, nested)
	gone := nilOf("In")
	for _, c := range []struct {
		d    api.Datum
		x, v string
	}{
		{record("Out"), "field 0.1.1.0", "method 0.1.1 Core/0"},
		{record("Out", gone), "nil|field x", "nil|method v"},
		{record("Out", record("Mid")), "field 0.1.1.0", "method 0.1.1 Core/0"},
		{record("Out", record("Mid", gone)), "field 0.1.1.0", "method 0.1.1 Core/0"},
		{record("Out", record("Mid", none, gone)), "nil|field x", "nil|method v"},
		{record("Out", record("Mid", none, record("In", gone))), "field 0.1.1.0", "method 0.1.1 Core/0"},
		{record("Out", record("Mid", none, record("In", gone, gone))), "nil|field x", "nil|method v"},
		{record("Out", record("Mid", none, record("In", none, record("Core")))), "field 0.1.1.0", "method 0.1.1 Core/0"},
		{record("Out", record("Mid", none, record("In", none, record("Core", gone)))), "field 0.1.1.0", "method 0.1.1 Core/0"},
		{record("Out", record("Mid", none, record("In", none, none, gone), gone), gone, gone), "field 0.1.1.0", "method 0.1.1 Core/0"},
	} {
		wantSelect(t, x, c.d, "x", c.x)
		wantSelect(t, x, c.d, "v", c.v)
	}
	wantSelect(t, x, record("Last", none, none), "p", "method 2.1.0 *Core/1")
	wantSelect(t, x, record("Holder"), "w", "protocol 1 Gives/2")
	wantSelect(t, x, record("Holder", none), "w", "protocol 1 Gives/2")
	wantSelect(t, x, record("Farther"), "w", "protocol 0.1 Gives/2")
}

// A struct alone has a way: of other kinds, whatever their Items, only the table is asked.
func TestSelectOfOtherKinds(t *testing.T) {
	x := table(t, nested)
	for kind := -3; kind <= 13; kind++ {
		switch kind {
		case api.KNil, api.KStruct, api.KPointer:
			continue
		}
		d := typed(kind, "First")
		d.Items = []api.Datum{nilOf("Mid"), nilOf("Mid")}
		wantSelect(t, x, d, "x", "field 1.1.1.0")
		wantSelect(t, x, d, "v", "method 1.1.1 Core/0")
		wantSelect(t, x, d, "q", "missing|q of First")
		d.Type, d.Items = "Holder", []api.Datum{none, none}
		wantSelect(t, x, d, "w", "protocol 1 Gives/2")
		d.Type = "Row"
		wantSelect(t, x, d, "n", "method  Row/0")
		wantSelect(t, x, d, "len", "missing|len of Row")
		d.Type = "nobody"
		wantSelect(t, x, d, "n", "missing|n of nobody")
		d.Type = "Both"
		wantSelect(t, x, d, "x", "missing|x of Both twice")
	}
	for kind := api.KBool; kind <= api.KFunc; kind++ {
		wantSelect(t, x, typed(kind, kindNames[kind]), "n", "missing|n of "+kindNames[kind])
	}
	wantSelect(t, x, pointer("Row", 1), "n", "missing|n of *Row")
	wantSelect(t, x, nilOf("Row"), "n", "missing|n of *Row")
	wantSelect(t, x, nilOf("nobody"), "n", "missing|n of *nobody")
	wantSelect(t, x, record("Gives"), "w", "missing|w of Gives") // a protocol is no type
	wantSelect(t, x, nilOf("Gives"), "w", "missing|w of *Gives")
	wantSelect(t, x, record("any"), "", "missing| of any")
}

// Methods of an embedded protocol: nil where the way ends at its last item, and that is nil.
func TestSelectOfProtocols(t *testing.T) {
	x := table(t, nested)
	holder, farther, behind := zero(t, x, "Holder"), zero(t, x, "Farther"), zero(t, x, "Behind")
	wantSelect(t, x, holder, "w", "nil|method w")
	wantSelect(t, x, holder, "Gives", "field 1")
	wantSelect(t, x, farther, "w", "nil|method w")
	wantSelect(t, x, farther, "j", "field 0.0")
	wantSelect(t, x, behind, "w", "nil|method w") // through the pointer
	wantSelect(t, x, behind, "Gives", "nil|field Gives")
	wantSelect(t, x, with(behind, pointer("Holder", 1), 0), "w", "protocol 0.1 Gives/2")
	odd := api.Datum{Type: "Core", N: 3, Ref: api.Ref{Object: 5}, Items: []api.Datum{none}}
	wantSelect(t, x, with(holder, odd, 1), "w", "nil|method w") // its Kind alone is asked
	for _, item := range []api.Datum{integer(1), zero(t, x, "Core"), pointer("Core", 1), nilOf("Core"), typed(api.KList, "list"), typed(77, ""), typed(-1, "Gives"), record("Holder", none, none)} {
		wantSelect(t, x, with(holder, item, 1), "w", "protocol 1 Gives/2")
		wantSelect(t, x, with(farther, item, 0, 1), "w", "protocol 0.1 Gives/2")
		wantSelect(t, x, with(holder, item, 0), "w", "nil|method w") // that is another field
	}
	// ways that end ahead of their last item
	for _, item := range []api.Datum{none, integer(1), typed(api.KList, "list"), record("Holder"), record("Holder", none), pointer("Holder", 2)} {
		wantSelect(t, x, with(farther, item, 0), "w", "protocol 0.1 Gives/2")
		wantSelect(t, x, with(behind, item, 0), "w", "protocol 0.1 Gives/2")
	}
	wantSelect(t, x, with(farther, nilOf("Holder"), 0), "w", "nil|method w")
	wantSelect(t, x, with(behind, record("Holder", none, none), 0), "w", "nil|method w")
	wantSelect(t, x, with(behind, record("Holder", none, nilOf("Core")), 0), "w", "protocol 0.1 Gives/2")
}

// Found twice: fields, methods, and a field and a method; what is there once is found beside.
func TestSelectTwice(t *testing.T) {
	x := table(t, nested)
	for _, d := range []api.Datum{zero(t, x, "Both"), record("Both"), record("Both", nilOf("Left"), nilOf("Right"))} {
		wantSelect(t, x, d, "x", "missing|x of Both twice")
		wantSelect(t, x, d, "m", "missing|m of Both twice")
	}
	wantSelect(t, x, nilOf("Both"), "x", "missing|x of *Both twice")
	wantSelect(t, x, nilOf("Both"), "m", "missing|m of *Both twice")
	wantSelect(t, x, zero(t, x, "Both"), "only", "field 0.1")
	wantSelect(t, x, zero(t, x, "Mixed"), "x", "missing|x of Mixed twice")
	wantSelect(t, x, pointer("Mixed", 1), "x", "missing|x of *Mixed twice")
	wantSelect(t, x, zero(t, x, "Mixed"), "m", "method 0 Left/0")
	wantSelect(t, x, zero(t, x, "Mixed"), "k", "field 1.0")
}

// Each of the reasons ahead of those behind it that would hold as well.
func TestSelectTellsTheFirst(t *testing.T) {
	x := table(t, nested)
	// 1 ahead of 2 (no such name; twice), of 3 and 4; also where the name is a method's
	for _, d := range []api.Datum{none, {Type: "Both"}, {Type: "First", Items: []api.Datum{none, nilOf("Mid")}}, {Type: "Core", Ref: api.Ref{Object: 2}}} {
		for _, name := range []string{"x", "v", "p", "w", "m", "nobody", ""} {
			wantSelect(t, x, d, name, "nil|field "+name)
		}
	}
	// 2 ahead of 3
	wantSelect(t, x, nilOf("Core"), "nobody", "missing|nobody of *Core")
	wantSelect(t, x, nilOf("Both"), "x", "missing|x of *Both twice")
	// 2 ahead of 4
	d := with(zero(t, x, "Out"), nilOf("Mid"), 0)
	wantSelect(t, x, d, "p", "missing|p of Out")
	wantSelect(t, x, record("Both", nilOf("Left"), nilOf("Right")), "x", "missing|x of Both twice")
	// 3 whatever stands in the items
	d = zero(t, x, "First")
	d.Kind = api.KPointer
	wantSelect(t, x, d, "p", "nil|method p")
	wantSelect(t, x, d, "c", "nil|field c")
	d = api.Datum{Kind: api.KPointer, Type: "Holder", Items: []api.Datum{none, integer(5)}}
	wantSelect(t, x, d, "w", "nil|method w")
}

// Names that are none, and long ones: they are told as they are.
func TestSelectOfOddNames(t *testing.T) {
	x := table(t, nested)
	for _, name := range []string{"", " ", "*", "*Core", "x y", "\x00\xff", "int", "nil", "any", "0", strings.Repeat("x", 100000)} {
		wantSelect(t, x, zero(t, x, "Core"), name, "missing|"+name+" of Core")
		wantSelect(t, x, pointer("Core", 1), name, "missing|"+name+" of *Core")
		wantSelect(t, x, typed(77, name), "x", "missing|x of "+name)
		wantSelect(t, x, nilOf(name), "x", "missing|x of *"+name)
		wantSelect(t, x, none, name, "nil|field "+name)
	}
	wantSelect(t, x, typed(api.KStruct, "*Core"), "x", "missing|x of *Core")
}

// A type that leads to itself by a pointer: its way ends.
func TestSelectOfTypesWithinThemselves(t *testing.T) {
	x := table(t, "type Ring struct { .*Ring; x }; func (r Ring) v() {}; func (r *Ring) p() {}; type Of struct { .Ring }")
	ring := zero(t, x, "Ring")
	wantSelect(t, x, ring, "x", "field 1")
	wantSelect(t, x, ring, "Ring", "field 0")
	wantSelect(t, x, ring, "v", "method  Ring/0")
	wantSelect(t, x, ring, "p", "missing|p of Ring") // the way by its own field comes to nothing new
	wantSelect(t, x, zero(t, x, "Of"), "x", "field 0.1")
	wantSelect(t, x, with(zero(t, x, "Of"), nilOf("Ring"), 0), "x", "nil|field x")
	wantSelect(t, x, with(zero(t, x, "Of"), nilOf("Ring"), 0), "v", "nil|method v")
}

// All that is found is new: whoever writes over it changes no other answer.
func TestSelectAnswersAreNew(t *testing.T) {
	x := table(t, nested)
	d := with(zero(t, x, "Last"), pointer("Core", 1), 2, 1, 0)
	for _, name := range []string{"x", "v", "p", "g"} {
		first, err := assert.Select(x, d, name)
		if err != nil {
			t.Fatal(err)
		}
		second, _ := assert.Select(x, d, name)
		was := found(second)
		path := first.Path[:cap(first.Path)]
		for i := range path {
			path[i] = -9
		}
		_ = append(first.Path, 7)
		if found(second) != was || picked(t, x, d, name) != was || found(x.Find("Last", false, name)) != was {
			t.Errorf("A5: %s: %s, must be %s", name, found(second), was)
		}
	}
}
