package assert_test

import (
	"slices"
	"testing"

	"guise/api"
	"guise/assert"
	"guise/types"
)

// asTheModel holds all that is told of a datum against the model.
func asTheModel(t *testing.T, x *types.Table, d api.Datum, wants, names []string, rows [][]assert.Case) {
	t.Helper()
	for _, want := range wants {
		for _, star := range []bool{false, true} {
			if got, answer := must(t, x, d, want, star), modelMust(x, d, want, star); got != answer {
				t.Errorf("A2: Must(%s, %q, %v): %q, must be %q", brief(d), want, star, got, answer)
			}
		}
	}
	for _, name := range names {
		wantSelect(t, x, d, name, modelSelect(x, d, name))
	}
	if got, answer := assert.Choose(x, d, rows), modelChoose(x, d, rows); got != answer {
		t.Errorf("A3: Choose(%s, %v): %d, must be %d", brief(d), rows, got, answer)
	}
}

func TestByChance(t *testing.T) {
	g := growing(1)
	told := map[string]int{}
	for range 600 {
		g.program()
		for range 12 {
			d := g.datum(2)
			asTheModel(t, g.x, d, g.all, parts, g.rows())
			asTheModel(t, g.x, g.odd(3), g.all, parts, g.rows())
			for _, name := range parts {
				s := g.strewn(d, name)
				asTheModel(t, g.x, s, nil, []string{name}, g.rows())
				told[sortOf(picked(t, g.x, s, name))]++
			}
		}
	}
	for _, s := range []string{"nil|field", "nil|method", "missing|", "missing| twice", "field", "method", "protocol"} {
		if told[s] < 200 {
			t.Errorf("%q came %d times by chance", s, told[s])
		}
	}
}

// sortOf is which sort of answer of Select one is.
func sortOf(s string) string {
	for _, sort := range []string{"nil|field", "nil|method", "field", "method", "protocol"} {
		if len(s) >= len(sort) && s[:len(sort)] == sort {
			return sort
		}
	}
	if len(s) > 6 && s[len(s)-6:] == " twice" {
		return "missing| twice"
	}
	return "missing|"
}

// What is answered hangs on what is asked alone: the same again, whatever was asked between.
func TestTheSameAgain(t *testing.T) {
	g := growing(2)
	g.program()
	x := g.x
	for range 500 {
		d, name, want := g.datum(2), oneOf(g.Rand, parts...), oneOf(g.Rand, g.all...)
		first := picked(t, x, d, name) + must(t, x, d, want, false)
		other := g.odd(2)
		picked(t, x, other, name)
		must(t, x, other, want, true)
		assert.Choose(x, other, g.rows())
		if again := picked(t, x, d, name) + must(t, x, d, want, false); again != first {
			t.Fatalf("P4: %s, and again %s", first, again)
		}
	}
}

// read makes a datum of bytes: any bytes are one.
func read(from *[]byte, names []string, deep int) api.Datum {
	next := func() int {
		if len(*from) == 0 {
			return 0
		}
		n := int((*from)[0])
		*from = (*from)[1:]
		return n
	}
	d := api.Datum{Kind: next()%14 - 2, Type: names[next()%len(names)]}
	switch next() % 3 {
	case 0:
		d.Kind = api.KStruct
	case 1:
		d.Kind = api.KPointer
	}
	which := next()
	d.Ref.Object = which & 3 // nought or not
	if which&4 > 0 {
		d.N, d.S, d.F, d.Ref.From = next()-9, string([]byte{byte(next())}), uint64(next())<<56, next()
	}
	if which&8 > 0 {
		d.Ref.Path = []int{next() - 1, next()}
	}
	for n := next() % 7; deep > 0 && n > 0 && len(*from) > 0; n-- {
		d.Items = append(d.Items, read(from, names, deep-1))
	}
	return d
}

func FuzzAssert(f *testing.F) {
	f.Add(examples, "f", "P", []byte{2, 1, 0, 0, 2, 4, 1, 1, 0, 0})
	f.Add(of, "b", "Both", []byte{2, 9, 1, 0})
	f.Add(nested, "x", "Core", []byte{2, 6, 0, 0, 2, 0, 0, 1, 0, 0, 9, 1, 1, 0, 0})
	f.Add(nested, "w", "Gives", []byte{2, 5, 0, 0, 2, 0, 0, 1, 0, 0, 0, 0, 2, 0, 0})
	f.Fuzz(func(t *testing.T, text, name, want string, data []byte) {
		x, err := made(text)
		if err != nil {
			t.Skip()
		}
		names := slices.Concat(x.Names(), x.Protocols(), []string{"any", "int", "list", "nobody", name, want})
		d := read(&data, names, 50)
		for _, d := range append([]api.Datum{d}, d.Items...) {
			rows := [][]assert.Case{nil, {{Want: want}, {Want: want, Pointer: true}}, {{Nil: true}, {Want: "any"}}}
			asTheModel(t, x, d, []string{want, "any", "error", d.Type}, append([]string{name}, parts...), rows)
		}
	})
}
