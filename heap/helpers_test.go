package heap_test

import (
	"errors"
	"fmt"
	"math"
	"math/rand/v2"
	"slices"
	"sort"
	"strconv"
	"strings"
	"testing"

	"guise/api"
	"guise/heap"
	"guise/number"
	"guise/parse"
	"guise/types"
	"guise/value"
)

const (
	oneNaN    = 0x7FF8000000000001
	minusZero = 1 << 63
)

// store is what a heap can be asked: the program's, and the model.
type store interface {
	Object(d api.Datum) (api.Datum, error)
	List(l []api.Datum) (api.Datum, error)
	Map() api.Datum
	Box(d api.Datum) (int, error)
	Func(code int, boxes []int, bound []api.Datum) (api.Datum, error)
	Read(p api.Datum) (api.Datum, error)
	Write(p, d api.Datum) error
	Part(p api.Datum, field int, name string) (api.Datum, error)
	Open(box int) (api.Datum, bool)
	Set(box int, d api.Datum) bool
	At(l api.Datum, i int) (api.Datum, error)
	Put(l api.Datum, i int, d api.Datum) error
	Slice(l api.Datum, from, to, most int) (api.Datum, error)
	Append(l api.Datum, a ...api.Datum) (api.Datum, error)
	Copy(to, from api.Datum) (int, error)
	Get(m, k api.Datum) (api.Datum, bool, error)
	Lay(m, k, v api.Datum) error
	Drop(m, k api.Datum) error
	Size(m api.Datum) int
	Keys(m api.Datum) ([]api.Datum, []api.Datum)
	Called(f api.Datum) (int, []int, []api.Datum, bool)
	Show(t *types.Table, d api.Datum) string
	Things() []int
	Leads(n int) []int
	Free(n int) bool
}

var (
	none = api.Datum{}
	nan  = bits(oneNaN)
)

func boolean(n int) api.Datum { return api.Datum{Kind: api.KBool, Type: "bool", N: n} }

func integer(n int) api.Datum { return api.Datum{Kind: api.KInt, Type: "int", N: n} }

func integers(all ...int) []api.Datum {
	var out []api.Datum
	for _, n := range all {
		out = append(out, integer(n))
	}
	return out
}

func bits(b uint64) api.Datum { return api.Datum{Kind: api.KFloat, Type: "float", F: b} }

func float(f float64) api.Datum { return bits(math.Float64bits(f)) }

func text(s string) api.Datum { return api.Datum{Kind: api.KText, Type: "text", S: s} }

func piece(object, from, length, room int) api.Datum {
	return api.Datum{Kind: api.KList, Type: "list", Ref: api.Ref{Object: object, From: from, Len: length, Cap: room}}
}

func list(object, n int) api.Datum { return piece(object, 0, n, n) }

func mapping(object int) api.Datum {
	return api.Datum{Kind: api.KMap, Type: "map", Ref: api.Ref{Object: object}}
}

func function(object int) api.Datum {
	return api.Datum{Kind: api.KFunc, Type: "func", Ref: api.Ref{Object: object}}
}

func record(items ...api.Datum) api.Datum {
	return api.Datum{Kind: api.KStruct, Type: "T", Items: items}
}

func pointer(object int, path ...int) api.Datum {
	return api.Datum{Kind: api.KPointer, Type: "T", Ref: api.Ref{Object: object, Path: path}}
}

func typed(name string, d api.Datum) api.Datum {
	d.Type = name
	return d
}

// within lays d into structs within one another, so many of them.
func within(deep int, d api.Datum) api.Datum {
	for range deep {
		d = record(d)
	}
	return d
}

// times is a struct of n items that are all d.
func times(n int, d api.Datum) api.Datum { return record(slices.Repeat([]api.Datum{d}, n)...) }

// sized is a struct of that size, of ints.
func sized(n int) api.Datum {
	if n <= api.MaxFields+1 {
		return times(n-1, integer(7))
	}
	return record(sized(n - 1))
}

// leadless are the right ones of which nobody asks to what they lead.
func leadless() []api.Datum {
	return []api.Datum{none, boolean(1), integer(-5), nan, bits(minusZero), text("a"), typed("T", integer(5)), record(), record(integer(1), record(none))}
}

// nils are those that lead to none.
func nils() []api.Datum {
	return []api.Datum{list(0, 0), mapping(0), function(0), pointer(0), typed("L", list(0, 0)), typed("M", mapping(0)), typed("F", function(0)), typed("U", pointer(0))}
}

// wrong are data that are not right.
func wrong() []api.Datum {
	endless := record(none)
	endless.Items[0] = endless
	return []api.Datum{{Kind: 99}, {Kind: 10, Type: "T"}, {Kind: -1}, {Kind: api.KInt}, {Kind: api.KInt, Type: "text"}, boolean(2), boolean(-1),
		{Type: "nil"}, {N: 1}, {F: 1}, {S: "a"}, {Items: []api.Datum{none}}, {Ref: api.Ref{Object: 1}}, {Ref: api.Ref{Path: []int{0}}},
		bits(oneNaN + 1), bits(oneNaN | minusZero), text(strings.Repeat("a", api.MaxText+1)), typed("any", integer(1)), typed("1a", integer(1)), typed(strings.Repeat("a", 41), integer(1)),
		{Kind: api.KInt, Type: "int", S: "a"}, {Kind: api.KText, Type: "text", N: 1}, {Kind: api.KList, Type: "list", Ref: api.Ref{Len: 1}}, list(2, -1), list(-1, 1), list(api.MaxObjects+1, 1),
		piece(2, -1, 1, 1), piece(2, 0, 2, 1), piece(2, 1, 0, api.MaxRoom), piece(2, math.MaxInt, 0, 1), piece(2, 1, 0, math.MaxInt), typed("map", list(2, 1)), typed("", list(2, 1)),
		{Kind: api.KMap, Type: "map", Ref: api.Ref{Object: 3, Len: 1}}, mapping(-1), function(api.MaxObjects + 1), typed("func", mapping(3)), typed("map", function(5)),
		{Kind: api.KFunc, Type: "func", N: 1, Ref: api.Ref{Object: 5}}, {Kind: api.KMap, Type: "map", Ref: api.Ref{Object: 3, Path: []int{0}}},
		typed("int", record()), typed("", record()), times(31, none), within(100, none), record(integer(1), record(boolean(2))), record(nan, bits(oneNaN+1)), record(list(0, 0), typed("struct", integer(1))), endless,
		pointer(0, 0), pointer(1, 30), pointer(1, -1), pointer(1, make([]int, api.MaxSize+1)...), typed("pointer", pointer(0)), typed("*T", pointer(1)), pointer(-1), pointer(api.MaxObjects + 1),
	}
}

// lists' arrays, maps and the others of the zoo, by their numbers.
const (
	zooObject   = 1 // T{1, U{2, V{3, nil}}, nil, T{}}
	zooArray    = 2 // 10 11 12 13 14
	zooMap      = 3 // 1: "a", nil: list of zooArray
	zooVariable = 4 // 5
	zooFunction = 5 // 7, zooVariable, 1 and a map
	zooOther    = 6 // an object U{nil}
	zooGone     = 7 // forgotten
	zooEmpty    = 8 // an array without elements
	zooNext     = 9
)

// zoo is a heap with things of each kind.
func zoo(t *testing.T, h store) {
	t.Helper()
	_, err := h.Object(zooHeld())
	must(t, err)
	_, err = h.List(integers(10, 11, 12, 13, 14))
	must(t, err)
	h.Map()
	must(t, h.Lay(mapping(zooMap), integer(1), text("a")))
	must(t, h.Lay(mapping(zooMap), none, list(zooArray, 5)))
	_, err = h.Box(integer(5))
	must(t, err)
	_, err = h.Func(7, []int{zooVariable}, []api.Datum{integer(1), mapping(zooMap)})
	must(t, err)
	_, err = h.Object(typed("U", record(none)))
	must(t, err)
	_, err = h.Object(record())
	must(t, err)
	_, err = h.List(nil)
	must(t, err)
	if !h.Free(zooGone) || !slices.Equal(h.Things(), []int{1, 2, 3, 4, 5, 6, 8}) {
		t.Fatalf("P10.1: the things are %v", h.Things())
	}
}

func zooHeld() api.Datum {
	return record(integer(1), typed("U", record(integer(2), typed("V", record(integer(3), none)))), none, record())
}

func newZoo(t *testing.T) *heap.Heap {
	t.Helper()
	h := heap.New()
	zoo(t, h)
	return h
}

// strangers are numbers of no thing of the zoo.
func strangers() []int { return []int{zooGone, zooNext, 77, api.MaxObjects} }

// unfit are right data of a kind that do not fit in the zoo.
func unfit(kind int) []api.Datum {
	var out []api.Datum
	one := map[int]func(n int) api.Datum{api.KPointer: func(n int) api.Datum { return pointer(n) }, api.KList: func(n int) api.Datum { return list(n, 0) }, api.KMap: mapping, api.KFunc: function}[kind]
	own := map[int][]int{api.KPointer: {zooObject, zooOther}, api.KList: {zooArray, zooEmpty}, api.KMap: {zooMap}, api.KFunc: {zooFunction}}[kind]
	for _, n := range append(strangers(), 1, 2, 3, 4, 5, 6, 8) {
		if !slices.Contains(own, n) {
			out = append(out, one(n))
		}
	}
	switch kind {
	case api.KPointer:
		// Of another type; to what is no struct, is not there, is one of another type; on from there.
		out = append(out, typed("U", pointer(zooObject)), pointer(zooOther), typed("V", pointer(zooOther)),
			pointer(zooObject, 0), pointer(zooObject, 2), pointer(zooObject, 4), pointer(zooObject, 29), pointer(zooObject, 1), typed("V", pointer(zooObject, 1)), typed("U", pointer(zooObject, 3)),
			typed("U", pointer(zooObject, 1, 1)), pointer(zooObject, 1, 0), typed("V", pointer(zooObject, 1, 2)), pointer(zooObject, 3, 0), typed("V", pointer(zooObject, 1, 1, 0)), typed("V", pointer(zooObject, 1, 1, 1)), pointer(zooObject, make([]int, api.MaxSize)...), typed("U", pointer(zooOther, 0)))
	case api.KList:
		out = append(out, list(zooArray, 6), piece(zooArray, 5, 0, 1), piece(zooArray, 6, 0, 0), piece(zooArray, 1, 1, 5), piece(zooArray, 0, 0, 6), piece(zooArray, api.MaxRoom, 0, 0), piece(zooArray, 0, 0, api.MaxRoom), list(zooEmpty, 1), piece(zooEmpty, 1, 0, 0), piece(zooEmpty, 0, 0, 1), typed("L", list(zooArray, 6)))
	}
	for _, d := range out {
		if !value.Right(d) {
			panic("an unfit one that is not right: " + short(d))
		}
	}
	return out
}

// fitting are right data of a kind that fit in the zoo, to none too.
func fitting(kind int) []api.Datum {
	return map[int][]api.Datum{
		api.KPointer: {pointer(0), typed("U", pointer(0)), pointer(zooObject), typed("U", pointer(zooObject, 1)), typed("V", pointer(zooObject, 1, 1)), pointer(zooObject, 3), typed("U", pointer(zooOther))},
		api.KList:    {list(0, 0), typed("L", list(0, 0)), list(zooArray, 5), typed("L", list(zooArray, 5)), piece(zooArray, 1, 2, 4), piece(zooArray, 5, 0, 0), piece(zooArray, 0, 0, 0), list(zooEmpty, 0)},
		api.KMap:     {mapping(0), typed("M", mapping(0)), mapping(zooMap), typed("M", mapping(zooMap))},
		api.KFunc:    {function(0), typed("F", function(0)), function(zooFunction), typed("F", function(zooFunction))},
	}[kind]
}

// bad are data that may not stand where one of that kind is read.
func bad(kind int) []api.Datum {
	out := slices.Concat(wrong(), unfit(kind), leadless())
	for other := api.KList; other <= api.KPointer; other++ {
		if other != kind && other != api.KStruct {
			out = append(out, fitting(other)...)
		}
	}
	return out
}

// short writes a datum in few signs; long texts are cut.
func short(d api.Datum) string { return shortTo(d, 0) }

func shortTo(d api.Datum, deep int) string {
	switch d.Kind {
	case api.KNil, api.KBool, api.KInt, api.KText, api.KFloat:
		if n := len(d.S); n > 60 {
			return number.Show(typed(d.Type, text(d.S[:20]))) + ".." + strconv.Itoa(n)
		}
		return number.Show(d)
	case api.KStruct:
		if deep > 110 {
			return "endless"
		}
		var items []string
		for _, item := range d.Items {
			items = append(items, shortTo(item, deep+1))
		}
		return d.Type + "{" + strings.Join(items, " ") + "}"
	case api.KList:
		return fmt.Sprintf("%s@%d[%d:%d:%d]", d.Type, d.Ref.Object, d.Ref.From, d.Ref.From+d.Ref.Len, d.Ref.From+d.Ref.Cap)
	}
	out := number.Name(d) + "@" + strconv.Itoa(d.Ref.Object)
	for _, n := range d.Ref.Path {
		out += "." + strconv.Itoa(n)
	}
	return out
}

func shorts(l []api.Datum) string {
	var out []string
	for _, d := range l {
		out = append(out, short(d))
	}
	return "[" + strings.Join(out, " ") + "]"
}

// fault writes an error: it is nil itself, a *api.Wrong with just ErrArg or ErrMany, or a *api.Fault.
func fault(t testing.TB, err error) string {
	t.Helper()
	switch e := err.(type) {
	case nil:
		return ""
	case *api.Wrong:
		if e != nil && *e == (api.Wrong{Code: api.ErrArg}) && errors.Is(err, api.ErrArg) {
			return "wrong"
		}
		if e != nil && *e == (api.Wrong{Code: api.ErrMany}) && errors.Is(err, api.ErrMany) {
			return "many"
		}
	case *api.Fault:
		if e != nil && !errors.Is(err, api.ErrArg) && errors.Unwrap(err) == nil {
			return strings.TrimSuffix(e.Word+" "+e.More, " ")
		}
	}
	t.Fatalf("P2: %#v is no error of such a type", err)
	return ""
}

func must(t testing.TB, err error) {
	t.Helper()
	if err != nil {
		t.Fatalf("%v, must be nothing", err)
	}
}

// says writes a call's answer: the datum, or the error, beside which there is none.
func says(t testing.TB, d api.Datum, err error) string {
	t.Helper()
	if err == nil {
		if !value.Right(d) {
			t.Fatalf("what came out is not right: %s", short(d))
		}
		return short(d)
	}
	if !value.Same(d, none) {
		t.Fatalf("P2: beside %v there is %s", err, short(d))
	}
	return fault(t, err)
}

func is(t testing.TB, what, got, want string) {
	t.Helper()
	if got != want {
		t.Errorf("%s: %s, must be %s", what, got, want)
	}
}

// elements writes what a list has.
func elements(t testing.TB, h store, l api.Datum) string {
	t.Helper()
	var out []string
	for i := range l.Ref.Len {
		d, err := h.At(l, i)
		out = append(out, says(t, d, err))
	}
	return strings.Join(out, " ")
}

// entries writes what a map has.
func entries(h store, m api.Datum) string {
	keys, values := h.Keys(m)
	var out []string
	for i, k := range keys {
		out = append(out, short(k)+"="+short(values[i]))
	}
	if h.Size(m) != len(keys) || len(values) != len(keys) {
		out = append(out, fmt.Sprint("of ", h.Size(m), len(keys), len(values)))
	}
	return strings.Join(out, " ")
}

func called(h store, f api.Datum) string {
	code, boxes, bound, is := h.Called(f)
	if !is && (code != 0 || len(boxes) != 0 || len(bound) != 0) {
		return "no zero beside false"
	}
	return fmt.Sprintf("%d %v %s %v", code, boxes, shorts(bound), is)
}

// typeNames are those that tests give to objects.
var typeNames = []string{"T", "U", "V", "W", "fault"}

// dump writes all that stands in a heap, by its own calls.
func dump(t testing.TB, h store) string {
	t.Helper()
	var out []string
	for _, n := range h.Things() {
		out = append(out, fmt.Sprint(n, " ", held(t, h, n), " leads ", h.Leads(n)))
	}
	return strings.Join(out, "\n")
}

func held(t testing.TB, h store, n int) string {
	t.Helper()
	if d, is := h.Open(n); is {
		return "variable " + short(d)
	}
	if _, _, _, is := h.Called(function(n)); is {
		return "function " + called(h, function(n))
	}
	if _, err := h.At(piece(n, 0, 0, 0), 0); fault(t, err) != "wrong" {
		most := sort.Search(api.MaxRoom, func(i int) bool {
			_, err := h.Slice(piece(n, 0, 0, i+1), 0, 0, -1)
			return err != nil
		})
		return "array " + elements(t, h, list(n, most))
	}
	if _, _, err := h.Get(mapping(n), none); err == nil {
		return "map " + entries(h, mapping(n))
	}
	for _, name := range typeNames {
		if d, err := h.Read(typed(name, pointer(n))); err == nil {
			return "object " + short(d)
		}
	}
	t.Fatalf("the thing %d is none of the five", n)
	return ""
}

const declared = "type T struct { a; b }\ntype U struct { x; .V; y }\ntype V struct { z }\ntype K = list\nprotocol W { f(0) }\nfunc main() { }"

func table(t testing.TB, source string) *types.Table {
	t.Helper()
	n, err := parse.Program(source)
	must(t, err)
	out, err := types.Make(n)
	must(t, err)
	return out
}

// dice gives the same numbers on every run.
func dice(seed uint64) *rand.Rand { return rand.New(rand.NewPCG(seed, 10)) }

func oneOf[T any](r *rand.Rand, list ...T) T { return list[r.IntN(len(list))] }
