package assert_test

import (
	"fmt"
	"math"
	"strings"
	"testing"

	"guise/api"
	"guise/assert"
)

// of has types over each kind, and protocols that embed others; the bodies of its methods are of no account here.
const of = `
type Flag = bool
type Count = int
type Share = float
type Word = text
type Row = list
type Book = map
type Deed = func
type Low struct { x }
func (l Low) a() {}
func (l *Low) b(u) {}
type High struct { .Low; y }
func (h High) c(u, v) {}
type Tall struct { .*Low }
type Bare struct { }
protocol One { a(0) }
protocol Two { b(1) }
protocol Both { One; Two }
protocol All { Both; c(2) }
protocol More { All; z(0) }
protocol Few { a(1) }
protocol None { }
protocol Wide { None; error }
func (f Flag) a() {}
func (c Count) a() {}
func (s Share) a() {}
func (w Word) a() {}
func (r Row) a() {}
func (b Book) a() {}
func (d Deed) a() {}
`

// Each kind's own type, and a declared one over it: each holds itself, and no other one.
func TestHoldsEachKind(t *testing.T) {
	x := table(t, of)
	declared := []string{"", "Flag", "Count", "Share", "Word", "Row", "Book", "Deed"}
	all := append(append([]string{"Low", "High", "Tall", "Bare", "fault", "nobody", "nil", "struct", "pointer", "One", "any"}, kindNames[1:8]...), declared[1:]...)
	for kind := api.KBool; kind <= api.KFunc; kind++ {
		for i, name := range []string{kindNames[kind], declared[kind]} {
			d := typed(kind, name)
			for _, want := range all {
				is := want == name || want == "any" || want == "One" && i == 1
				if assert.Holds(x, d, want, false) != is || assert.Holds(x, d, want, true) {
					t.Errorf("A1: Holds(%s, %s) is not %v, or *%s is held", name, want, is, want)
				}
			}
		}
	}
	wantMust(t, x, typed(api.KInt, "Count"), "int", "Count is not int")
	wantMust(t, x, integer(1), "Count", "int is not Count")
	wantMust(t, x, integer(1), "One", "int is not One: no a")
	wantMust(t, x, typed(api.KMap, "Book"), "Few", "Book is not Few: no a")
}

// Structs and pointers to them: one does not hold the other, whatever it leads to.
func TestHoldsStructsAndPointers(t *testing.T) {
	x := table(t, of)
	holding(t, x, zero(t, x, "Low"), "Low any None One", "*Low Two Both High *High error fault nil")
	for _, p := range []api.Datum{nilOf("Low"), pointer("Low", 1), pointer("Low", 7, 0, 1), pointer("Low", math.MaxInt)} {
		holding(t, x, p, "*Low any None One Two Both", "Low All High *High *Bare error nil")
	}
	holding(t, x, zero(t, x, "High"), "High One any", "Low *Low *High Two Both All")
	holding(t, x, nilOf("High"), "*High One Two Both All any", "High Low *Low More")
	holding(t, x, zero(t, x, "Tall"), "Tall One Two Both", "All Low *Low *Tall")
	holding(t, x, nilOf("Tall"), "*Tall One Two Both", "All Tall")
	holding(t, x, zero(t, x, "Bare"), "Bare None any", "One error *Bare")
	holding(t, x, zero(t, x, "fault"), "fault any", "*fault error Wide")
	holding(t, x, nilOf("fault"), "*fault any error Wide None", "fault")
}

// Nil holds nothing: no type, no protocol, not `nil`, nor the empty name that its Type is.
func TestHoldsOfNil(t *testing.T) {
	x := table(t, of)
	for _, d := range []api.Datum{none, {Type: "Low"}, {Type: "int", N: 5}, {Ref: api.Ref{Object: 3}}, {Items: []api.Datum{integer(1)}}} {
		for _, want := range []string{"", "nil", "any", "None", "One", "error", "Low", "int", "nobody", d.Type} {
			for _, star := range []bool{false, true} {
				if got, answer := must(t, x, d, want, star), "nil is not "+starred(star, want); got != answer {
					t.Errorf("A2: Must(%s, %s): %q, must be %q", brief(d), want, got, answer)
				}
			}
		}
	}
}

// Wants that there are no types of are types all the same: also the empty one, one with a star in its name, and pointers to protocols.
func TestHoldsWhatThereIsNot(t *testing.T) {
	x := table(t, of)
	for _, name := range []string{"", "nobody", "nil", "struct", "a b", "*Low", "\x00", "One", "any", "int", "error"} {
		for kind := -3; kind <= 13; kind++ {
			if kind == api.KNil {
				continue
			}
			d := typed(kind, name)
			isPointer := kind == api.KPointer
			if got := must(t, x, d, name, true); (got == "yes") != isPointer || !isPointer && got != name+" is not *"+name {
				t.Errorf("A1: kind %d, %q as a pointer: %s", kind, name, got)
			}
			got := must(t, x, d, name, false)
			switch {
			case name == "One":
				if got != starred(isPointer, name)+" is not One: no a" {
					t.Errorf("A2: kind %d, %q: %s", kind, name, got)
				}
			case name == "error":
				if got != starred(isPointer, name)+" is not error: no Error" {
					t.Errorf("A2: kind %d, %q: %s", kind, name, got)
				}
			case (got == "yes") != (!isPointer || name == "any") || got != "yes" && got != "*"+name+" is not "+name:
				t.Errorf("A1: kind %d, %q: %s", kind, name, got)
			}
		}
	}
	wantMust(t, x, typed(api.KStruct, "*Low"), "*Low", "*Low is not *Low")
	wantMust(t, x, pointer("*Low", 0), "*Low", "**Low is not *Low")
	wantMust(t, x, nilOf("Low"), "*One", "*Low is not *One")
	wantMust(t, x, nilOf("Low"), "*any", "*Low is not *any")
	wantMust(t, x, integer(1), "", "int is not ")
	wantMust(t, x, integer(1), "*", "int is not *")
	wantMust(t, x, typed(api.KInt, ""), "int", " is not int")
	wantMust(t, x, typed(api.KInt, ""), "One", " is not One: no a")
	wantMust(t, x, nilOf(""), "One", "* is not One: no a")
}

// `any` is held by all but nil, also of types and kinds that there are none of; so is a protocol without methods.
func TestHoldsAny(t *testing.T) {
	x := table(t, of)
	for kind := -200; kind < 200; kind++ {
		for _, name := range []string{"", "int", "Low", "nobody", "One", "any"} {
			d := typed(kind, name)
			if assert.Holds(x, d, "any", false) != (kind != api.KNil) || assert.Holds(x, d, "None", false) != (kind != api.KNil) {
				t.Errorf("A1: kind %d, %q: any", kind, name)
			}
		}
	}
	for _, kind := range []int{math.MinInt, math.MaxInt, math.MinInt32, 1 << 32, -1 << 40, 9 + 1<<32, 9 - 1<<62} {
		wantMust(t, x, typed(kind, "Low"), "any", "yes")
		wantMust(t, x, typed(kind, "Low"), "Low", "yes")
		wantMust(t, x, typed(kind, "Low"), "*Low", "Low is not *Low")
		wantMust(t, x, typed(kind, "Low"), "Both", "Low is not Both: no b")
	}
}

// Of kinds only whether it is a pointer is asked: a type's methods go by its name.
func TestHoldsOtherKinds(t *testing.T) {
	x := table(t, of)
	for kind := -3; kind <= 13; kind++ {
		switch kind {
		case api.KNil:
		case api.KPointer:
			holding(t, x, typed(kind, "Low"), "*Low One Two Both any", "Low")
			holding(t, x, typed(kind, "Count"), "*Count any None", "Count One") // a pointer to it has no methods
			holding(t, x, typed(kind, "int"), "*int any", "int One")
		default:
			holding(t, x, typed(kind, "Low"), "Low One any", "*Low Two Both")
			holding(t, x, typed(kind, "Count"), "Count One any", "*Count int")
			holding(t, x, typed(kind, "int"), "int any", "*int Count One")
		}
	}
}

// What lacks is the first by its name, missing or with another number of arguments; those of embedded protocols count.
func TestMustTellsWhatLacks(t *testing.T) {
	x := table(t, of)
	low := zero(t, x, "Low")
	wantMust(t, x, low, "Two", "Low is not Two: no b")
	wantMust(t, x, low, "Both", "Low is not Both: no b")
	wantMust(t, x, low, "All", "Low is not All: no b")
	wantMust(t, x, nilOf("Low"), "All", "*Low is not All: no c")
	wantMust(t, x, nilOf("High"), "More", "*High is not More: no z")
	wantMust(t, x, low, "Few", "Low is not Few: no a")
	wantMust(t, x, nilOf("Low"), "Few", "*Low is not Few: no a")
	wantMust(t, x, zero(t, x, "Bare"), "More", "Bare is not More: no a")
	wantMust(t, x, zero(t, x, "fault"), "error", "fault is not error: no Error")
	wantMust(t, x, integer(3), "Wide", "int is not Wide: no Error")
	wantMust(t, x, typed(api.KStruct, "nobody"), "More", "nobody is not More: no a")
	wantMust(t, x, none, "More", "nil is not More")

	// upper case stands ahead of lower case, and a name with _ first between; a field of the name is no method; nor is what is there twice.
	y := table(t, `type T struct { Z; a }
type U struct { .V; .W }
type V struct { }
type W struct { }
func (v V) m() {}
func (w W) m() {}
protocol P { a(0); _b(0); Z(0) }
protocol Q { m(0) }
protocol R { a(0); _b(0) }
protocol S { a(0) }`)
	d := zero(t, y, "T")
	wantMust(t, y, d, "P", "T is not P: no Z")
	wantMust(t, y, d, "R", "T is not R: no _b")
	wantMust(t, y, d, "S", "T is not S: no a")
	wantMust(t, y, zero(t, y, "U"), "Q", "U is not Q: no m")
	wantMust(t, y, pointer("U", 5), "Q", "*U is not Q: no m")
	wantMust(t, y, zero(t, y, "V"), "Q", "yes")
}

// Must gives d itself, whatever is in it: nothing is set right.
func TestMustIsTheDatumItself(t *testing.T) {
	x := table(t, of)
	whole := api.Datum{Type: "Low", N: math.MinInt, F: 0xFFF0000000000001, S: "a\xff\x00", Ref: api.Ref{Object: -5, From: -1, Len: 7, Cap: 3, Path: []int{-1, 99, 0}},
		Items: []api.Datum{{Kind: 77, Type: "?", Items: []api.Datum{none, nilOf("x"), integer(-1)}}, {}, pointer("Low", -1, 3, 2, 1), record("Low", record("Low", text("deep")))}}
	for kind := -2; kind < 12; kind++ {
		if kind == api.KNil {
			continue
		}
		d := whole
		d.Kind = kind
		for _, want := range []string{"Low", "any", "One"} {
			out, err := assert.Must(x, d, want, kind == api.KPointer && want == "Low")
			if err != nil || good(out) != good(d) {
				t.Errorf("A2: Must(%s, %s): %s, %v", good(d), want, good(out), err)
			}
		}
	}
	for _, d := range []api.Datum{integer(5), text(strings.Repeat("x", 70000)), typed(api.KList, "K"), pointer("Low", 9, 1, 2), within(200, none)} {
		out, err := assert.Must(x, d, "any", false)
		if err != nil || good(out) != good(d) {
			t.Errorf("A2: Must(%s): %s, %v", brief(d), brief(out), err)
		}
	}
}

// As deep as the bound of all promises, and wide.
func TestMustOfLargeData(t *testing.T) {
	x := table(t, examples)
	d := within(1<<16-1, nilOf("C"))
	out, err := assert.Must(x, d, "A", false)
	if err != nil {
		t.Fatal(err)
	}
	deep := 0
	for out.Kind == api.KStruct && out.Type == "A" && len(out.Items) == 1 {
		out = out.Items[0]
		deep++
	}
	if deep != 1<<16-1 || good(out) != good(nilOf("C")) {
		t.Errorf("A2: %d deep, then %s", deep, brief(out))
	}
	wantSelect(t, x, d, "f", "method  A/0")
	wantSelect(t, x, d, "x", "field 0")
	wide := record("A", make([]api.Datum, 100000)...)
	out, err = assert.Must(x, wide, "A", false)
	if err != nil || len(out.Items) != 100000 {
		t.Errorf("A2: %d items, %v", len(out.Items), err)
	}
	if _, err := assert.Must(x, wide, "B", false); told(t, err) != "conversion|A is not B" {
		t.Errorf("A2: %v", err)
	}
}

// A protocol with as many methods as there may be, and names as long as they may be.
func TestHoldsAtTheLimits(t *testing.T) {
	var program strings.Builder
	long := strings.Repeat("n", api.MaxName)
	fmt.Fprintf(&program, "type %s struct { }\nprotocol Q { ", long)
	for i := range api.MaxMethods {
		fmt.Fprintf(&program, "m%02d(%d); ", i, i%13)
	}
	program.WriteString("}\nprotocol R { Q }\n")
	var methods []string
	for i := range api.MaxMethods {
		params := make([]string, i%13)
		for j := range params {
			params[j] = fmt.Sprintf("p%d", j)
		}
		methods = append(methods, fmt.Sprintf("func (n %s) m%02d(%s) {}\n", long, i, strings.Join(params, ", ")))
	}
	x := table(t, program.String()+strings.Join(methods, ""))
	d := record(long)
	holding(t, x, d, "Q R any "+long, "error")
	for i := range api.MaxMethods {
		wantSelect(t, x, d, fmt.Sprintf("m%02d", i), fmt.Sprintf("method  %s/%d", long, i%13))
		y := table(t, program.String()+strings.Join(methods[:i], "")+strings.Join(methods[i+1:], ""))
		wantMust(t, y, d, "R", fmt.Sprintf("%s is not R: no m%02d", long, i))
	}
	wantMust(t, x, d, long+"n", long+" is not "+long+"n")
}
