package value_test

import (
	"strings"
	"testing"

	"guise/api"
	"guise/value"
)

// asTheModel holds all that is told of two data against the model.
func asTheModel(t *testing.T, a, b api.Datum) {
	t.Helper()
	wantRight(t, a, modelRight(a))
	wantEqual(t, a, b, modelEqual(a, b))
	wantEqual(t, b, a, modelEqual(b, a))
	wantKey(t, a, modelKey(a))
	wantSame(t, a, b, modelSame(a, b))
	if modelEqual(a, b) == "yes" && hash(t, a) != hash(t, b) {
		t.Errorf("P7.7: %s and %s have unlike hashes", brief(a), brief(b))
	}
	v, err := value.Of(a)
	if !modelRight(a) {
		if v != nil || told(t, err) != "wrong" {
			t.Errorf("P7.1: Of(%s): %v, %v", brief(a), v, err)
		}
		return
	}
	if err != nil || (v == nil) != (a.Kind == api.KNil) {
		t.Errorf("P7.1: Of(%s): %v, %v", brief(a), v, err)
	}
	if v != nil {
		valueAsTheModel(t, v, a, b)
	}
}

func valueAsTheModel(t *testing.T, v value.Value, a, b api.Datum) {
	t.Helper()
	if v.Type() != modelType(a) || !modelSame(v.Datum(), a) {
		t.Errorf("P7.1: %s is told as %s, %s", brief(a), v.Type(), brief(v.Datum()))
	}
	if got := asks(v); got != modelAsked(a) {
		t.Errorf("P7.2: %s is %q, must be %q", brief(a), got, modelAsked(a))
	}
	if strings.Contains(modelAsked(a), "Ordered") {
		n, is := modelRank(a, b)
		wantRank(t, a, b, n, is)
	}
	if s, is := v.(value.Sized); is && s.Len() != len(a.S)+a.Ref.Len {
		t.Errorf("P7.4: the length of %s is told as %d", brief(a), s.Len())
	}
	if p, is := v.(value.Pointing); is && p.None() != (a.Ref.Object < 1) {
		t.Errorf("P7.4: None of %s is %v", brief(a), p.None())
	}
	if k, is := v.(value.Keyed); is && k.Hash() != hash(t, a) {
		t.Errorf("P7.4: the hash of %s is told as %d", brief(a), k.Hash())
	}
}

func TestByChance(t *testing.T) {
	g := growing(1)
	for range 20000 {
		a := g.right(3)
		asTheModel(t, a, g.near(a))
	}
	for range 10000 {
		a := g.comparable(3)
		asTheModel(t, a, g.near(a))
	}
	for range 8000 {
		a := g.any()
		asTheModel(t, a, g.any())
		asTheModel(t, a, apart(a))
	}
	for range 5000 {
		a := g.odd(g.right(3))
		asTheModel(t, a, g.odd(a))
	}
	for range 10000 {
		a := g.right(0, api.KInt, api.KFloat, api.KText)
		asTheModel(t, a, g.right(0, a.Kind))
	}
}

// Each two of those that stand in the tests' tables.
func TestPairsAsTheModel(t *testing.T) {
	all := append(unlike(), ofEachKind()...)
	all = append(all, nan, bits(minusZero), record(nan), record(nan, list(1, 1)), record(list(1, 1), nan), record(list(1, 1)), record(mapping(0)), record(integer(1), function(0)), list(0, 0), typed("T", list(0, 0)), boolean(2), api.Datum{Kind: 10})
	for _, a := range all {
		for _, b := range all {
			asTheModel(t, a, b)
		}
	}
}

// What is answered hangs on what is asked alone: the same again, whatever was asked between.
func TestTheSameAgain(t *testing.T) {
	g := growing(2)
	answers := func(a, b api.Datum) string {
		out := equal(t, a, b) + " " + told(t, value.Key(a))
		if v, err := value.Of(a); err == nil && v != nil {
			out += " " + v.Type() + " " + asks(v) + good(v.Datum())
		}
		return out
	}
	for range 3000 {
		a, c := g.any(), g.any()
		b := g.near(a)
		first := answers(a, b)
		h, _ := value.Hash(a)
		answers(c, g.near(c))
		value.Hash(c)
		again := answers(a, b)
		if n, _ := value.Hash(apart(a)); n != h || first != again {
			t.Fatalf("P4: %s, and again %s; %d and %d", first, again, h, n)
		}
	}
}

// read makes a datum of bytes: any bytes are one.
func read(from *[]byte, deep int) api.Datum {
	next := func() int {
		if len(*from) == 0 {
			return 0
		}
		n := int((*from)[0])
		*from = (*from)[1:]
		return n
	}
	names := []string{"T", "U", "", "bool", "int", "float", "text", "list", "map", "func", "any", "nil", "struct", "pointer", "a1", "1a"}
	d := api.Datum{Kind: next() % 11}
	if shape := next(); shape < 128 {
		d.Type = append(kindNames, "?")[d.Kind]
		if d.Type == "" && d.Kind > api.KNil {
			d.Type = "T"
		}
	} else {
		d.Type = names[shape%len(names)]
	}
	numbers := []int{0, 0, 1, 2, 3, 29, 30, -1, 1048575, 1048576, 1048577, 2147483647, 2147483648}
	floats := append([]uint64{0, minusZero, 1, oneNaN, infinity}, otherNaNs...)
	which := next()
	if d.Kind == api.KBool || d.Kind == api.KInt || which&1 > 0 {
		d.N = next() - 1
	}
	if d.Kind == api.KFloat || which&2 > 0 {
		d.F = floats[next()%len(floats)]
	}
	if d.Kind == api.KText || which&4 > 0 {
		d.S = strings.Repeat(string([]byte{byte(next())}), next()%4)
	}
	if d.Kind >= api.KList && d.Kind != api.KStruct || which&8 > 0 {
		d.Ref.Object = numbers[next()%len(numbers)]
	}
	if d.Kind == api.KList || which&16 > 0 {
		d.Ref.From, d.Ref.Len, d.Ref.Cap = numbers[next()%len(numbers)], numbers[next()%len(numbers)], numbers[next()%len(numbers)]
	}
	if d.Kind == api.KPointer || which&32 > 0 {
		for range next() % 5 {
			d.Ref.Path = append(d.Ref.Path, next()-1)
		}
	}
	if d.Kind == api.KStruct || which&64 > 0 {
		for n := next() % 33; deep > 0 && n > 0 && len(*from) > 0; n-- {
			d.Items = append(d.Items, read(from, deep-1))
		}
	}
	return d
}

func FuzzValue(f *testing.F) {
	f.Add([]byte{2, 0, 0, 5}, []byte{2, 0, 0, 5})
	f.Add([]byte{8, 0, 0, 2, 3, 0, 0, 3, 5, 0, 0, 2, 0, 1, 1}, []byte{8, 0, 0, 2, 3, 0, 0, 0, 5, 0, 0, 2, 0, 1, 1})
	f.Add([]byte{9, 0, 0, 2, 2, 1, 2}, []byte{10})
	f.Fuzz(func(t *testing.T, one, two []byte) {
		a := read(&one, 110)
		b := read(&two, 110)
		asTheModel(t, a, b)
		asTheModel(t, b, apart(b))
		asTheModel(t, record(a, b), record(a, none))
	})
}
