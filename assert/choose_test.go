package assert_test

import (
	"testing"

	"guise/api"
	"guise/assert"
)

func TestChoose(t *testing.T) {
	x := table(t, of)
	low, star := zero(t, x, "Low"), pointer("Low", 4, 1)
	for _, c := range []struct {
		d      api.Datum
		rows   string
		answer int
	}{
		{integer(5), "int", 0},
		{integer(5), "text", -1},
		{integer(5), "text | int | any", 1},
		{integer(5), "any | int", 0},
		{integer(5), "text, float, int | any", 0},
		{integer(5), "text, float | *int, Count | error, One | int", 3},
		{integer(5), "nil | nobody | nil, int | int", 2},
		{low, "*Low | Low", 1},
		{low, "Two | Both | One | Low", 2},
		{star, "Low | *Low", 1},
		{star, "Low, High, Tall | Bare, *High, Two", 1},
		{star, "nil | *any | *One | any", 3},
		{nilOf("Low"), "nil | *Low", 1},
		{nilOf("Low"), "nil", -1},
		{typed(api.KList, "Row"), "nil | list | Row", 2},
		{none, "any, int, Low, *Low, One, error", -1},
		{none, "any | int, nil | nil", 1},
		{none, "nil, int | nil", 0},
		{none, "None | nobody | any, Low, nil", 2},
	} {
		wantChoose(t, x, c.d, c.rows, c.answer)
	}
}

// A row without cases never is, wherever it stands; nor is there a default.
func TestChooseOfRowsWithoutCases(t *testing.T) {
	x := table(t, of)
	for _, d := range []api.Datum{none, integer(5), nilOf("Low"), typed(77, "")} {
		for _, rows := range [][][]assert.Case{nil, {}, {nil}, {{}}, {nil, {}, nil}} {
			if got := assert.Choose(x, d, rows); got != -1 {
				t.Errorf("A3: Choose(%s, %v): %d", brief(d), rows, got)
			}
		}
	}
	wantChoose(t, x, integer(5), " | | int | | any", 2)
	wantChoose(t, x, none, " | nil", 1)
	wantChoose(t, x, none, "any | ", -1)
}

// Of a case with Nil its Want and its Pointer are not asked.
func TestChooseOfNil(t *testing.T) {
	x := table(t, of)
	for _, want := range []string{"", "int", "any", "nobody", "Low", "One"} {
		for _, star := range []bool{false, true} {
			rows := [][]assert.Case{{{Want: want, Pointer: star, Nil: true}}, {{Want: "nobody"}, {Want: "any"}}}
			for _, c := range []struct {
				d      api.Datum
				answer int
			}{{none, 0}, {api.Datum{Type: "int", N: 4}, 0}, {integer(5), 1}, {nilOf("Low"), 1}, {zero(t, x, "Low"), 1}, {typed(-1, ""), 1}, {typed(api.KList, "list"), 1}} {
				if got := assert.Choose(x, c.d, rows); got != c.answer {
					t.Errorf("A3: Choose(%s, %v): %d, must be %d", brief(c.d), rows, got, c.answer)
				}
			}
		}
	}
	// without Nil, a case of no name, or of the name nil, is no case of nil
	rows := [][]assert.Case{{{}, {Want: "nil"}, {Pointer: true}, {Want: "nil", Pointer: true}}}
	if got := assert.Choose(x, none, rows); got != -1 {
		t.Errorf("A3: %d", got)
	}
	if got := assert.Choose(x, typed(api.KInt, ""), rows); got != 0 {
		t.Errorf("A3: a type of no name is held: %d", got)
	}
	if got := assert.Choose(x, typed(api.KInt, "nil"), rows); got != 0 {
		t.Errorf("A3: a type of the name nil is held: %d", got)
	}
}

// Many rows, and many cases in one: the first of them.
func TestChooseOfManyRows(t *testing.T) {
	x := table(t, of)
	rows := make([][]assert.Case, 3000)
	for i := range rows {
		rows[i] = []assert.Case{{Want: "text"}, {Nil: true}, {Want: "Low", Pointer: true}}
	}
	if got := assert.Choose(x, integer(5), rows); got != -1 {
		t.Errorf("A3: %d", got)
	}
	rows[1999] = append(rows[1999], assert.Case{Want: "any"})
	rows[2500] = append(rows[2500], assert.Case{Want: "int"})
	if got := assert.Choose(x, integer(5), rows); got != 1999 {
		t.Errorf("A3: %d", got)
	}
	row := make([]assert.Case, 5000)
	row[4999] = assert.Case{Want: "int"}
	if got := assert.Choose(x, integer(5), [][]assert.Case{nil, row[:4999], row}); got != 2 {
		t.Errorf("A3: %d", got)
	}
}
