package units_test

import (
	"fmt"
	"slices"
	"strings"
	"testing"

	"guise/api"
	"guise/lex"
	"guise/units"
)

// numbered are units u0, u1, ..; each row tells whom one imports.
func numbered(rows ...[]int) []units.Unit {
	var out []units.Unit
	for i, row := range rows {
		source := ""
		for _, j := range row {
			source += fmt.Sprintf("import u%d\n", j)
		}
		out = append(out, units.Unit{Name: fmt.Sprint("u", i), Source: source})
	}
	return out
}

func TestOrderOfFew(t *testing.T) {
	is(t, "U1: of none", ordered(t, nil), "")
	is(t, "U1: of none", ordered(t, []units.Unit{}), "")
	is(t, "U1: of one", ordered(t, of("a", "")), "0")
	is(t, "U1: of one", ordered(t, of("a", "var x = 1")), "0")
	is(t, "U2: of none", joined(t, nil), wrongTold(api.ErrUnit, 0, ""))
	is(t, "U2: of none", joined(t, []units.Unit{}), wrongTold(api.ErrUnit, 0, ""))
}

// Sixteen units are told, one more is too many, whatever else is wrong.
func TestOrderOfMany(t *testing.T) {
	is(t, "U1: sixteen", ordered(t, numbered(make([][]int, 16)...)), "0 1 2 3 4 5 6 7 8 9 10 11 12 13 14 15")
	row := make([][]int, 16)
	for i := range 15 {
		row[i] = []int{i + 1}
	}
	is(t, "U1: each imports the next", ordered(t, numbered(row...)), "15 14 13 12 11 10 9 8 7 6 5 4 3 2 1 0")
	row[15] = []int{8}
	is(t, "U1: a ring at the end", ordered(t, numbered(row...)), wrongTold(api.ErrImport, 0, "u8"))
	row[15] = []int{0}
	is(t, "U1: a ring of all", ordered(t, numbered(row...)), wrongTold(api.ErrImport, 0, "u0"))
	all := make([][]int, 16)
	for i := range all {
		for j := 15; j > i; j-- {
			all[i] = append(all[i], j)
		}
	}
	is(t, "U1: each imports all behind it", ordered(t, numbered(all...)), "15 14 13 12 11 10 9 8 7 6 5 4 3 2 1 0")

	for _, many := range []int{17, 18, 1000} {
		must := wrongTold(api.ErrMany, 0, "")
		is(t, "U1: too many", ordered(t, numbered(make([][]int, many)...)), must)
		is(t, "U2: too many", joined(t, numbered(make([][]int, many)...)), must)
		wrong := make([]units.Unit, many)
		wrong[0].Source = strings.Repeat(" ", 60001)
		is(t, "U1: too many, and else wrong", ordered(t, wrong), must)
	}
}

// The next one is always the first that has not been told, and all of whose imports have been.
func TestTheNextOne(t *testing.T) {
	for _, x := range []struct {
		rows [][]int
		want string
	}{
		{[][]int{{2, 1}, {2}, {}, {}}, "2 1 0 3"},
		{[][]int{{1}, {}}, "1 0"},
		{[][]int{{}, {0}}, "0 1"},
		{[][]int{{3}, {}, {}, {}}, "1 2 3 0"},
		{[][]int{{3}, {0}, {}, {}}, "2 3 0 1"},
		{[][]int{{4}, {0}, {1}, {}, {}}, "3 4 0 1 2"},
		{[][]int{{1, 2, 3}, {3}, {3}, {}}, "3 1 2 0"},
		{[][]int{{1, 2, 3}, {2}, {3}, {}}, "3 2 1 0"},
		{[][]int{{2}, {3}, {}, {}}, "2 0 3 1"},
		{[][]int{{5}, {0}, {}, {2}, {1, 3}, {}}, "2 3 5 0 1 4"},
		{[][]int{{}, {5}, {4}, {0}, {1}, {3}}, "0 3 5 1 4 2"},
	} {
		is(t, fmt.Sprint("U1: ", x.rows), ordered(t, numbered(x.rows...)), x.want)
	}
}

// The first unit that leads to itself is told; not one that only leads to such units.
func TestRings(t *testing.T) {
	for _, x := range []struct {
		rows [][]int
		want int
	}{
		{[][]int{{1}, {0}}, 0},
		{[][]int{{1}, {2}, {1}}, 1},
		{[][]int{{1}, {2}, {3}, {4}, {2}}, 2},
		{[][]int{{4}, {}, {3}, {2}, {2}}, 2},
		{[][]int{{1, 2}, {3}, {4}, {5}, {2}, {}}, 2},
		{[][]int{{}, {0}, {3, 0}, {1, 2}}, 2},
		{[][]int{{}, {3}, {0}, {4}, {1}, {0}}, 1},
		{[][]int{{2}, {3}, {1}, {1}}, 1},
	} {
		l := numbered(x.rows...)
		must := wrongTold(api.ErrImport, 0, fmt.Sprint("u", x.want))
		is(t, fmt.Sprint("U1: ", x.rows), ordered(t, l), must)
		is(t, fmt.Sprint("U2: ", x.rows), joined(t, l), must)
	}
}

const forty = "a234567890b234567890c234567890d234567890"

// What is a unit's name, and what is none, as a unit's and as a word.
func TestNamesOfUnits(t *testing.T) {
	for _, name := range []string{"a", "Z", "a1", "_a", "a_", "_1", "_a_b_", "main", "int", "print", "error", "import", forty} {
		is(t, "U1: "+name, ordered(t, of(name, "")), "0")
		is(t, "U1: "+name, ordered(t, of("x", "import "+name, name, "")), "1 0")
		refused(t, api.ErrImport, "x."+name, "x", "import ~"+name)
	}
	wrong := []string{"_", "__", "a__b", "__a", "a__", "___", "a___b", forty + "e", strings.Repeat("x", 5000), "1", "1a", "a-b", "a.b", "é", "aé", "a\r", "a;", "\"a\"", "//", "a//b", "a\x00", "\xff"}
	for _, name := range append(wrong, lex.Words()...) {
		refused(t, api.ErrUnit, name, name, "")
		refused(t, api.ErrUnit, "x."+name, "x", "import ~"+name, "y", "")
	}
	for _, name := range []string{"", "a b", " a", "a\n", "a\tb"} {
		refused(t, api.ErrUnit, name, name, "")
		refused(t, api.ErrUnit, name, "x", "", name, "")
	}
	refused(t, api.ErrUnit, "a", "a", "", "a", "")
	refused(t, api.ErrUnit, "b", "a", "", "b", "", "c", "", "b", "var x = 1")
	is(t, "U1: large and small letters are others", ordered(t, of("a", "", "A", "")), "0 1")
}

// A source may have so many bytes, whatever they are, and not one more.
func TestLongSources(t *testing.T) {
	for _, fill := range []string{" ", "\n", "//", "x", "#", "\xff", "\t\n"} {
		whole := strings.Repeat(fill, 60000/len(fill))
		is(t, "U1: 60000 bytes", ordered(t, of("a", whole, "b", whole)), "0 1")
		refused(t, api.ErrLong, "a", "a", whole+" ")
		refused(t, api.ErrLong, "b", "a", "", "b", whole+"\n", "c", whole)
	}
	head := "import b\n"
	is(t, "U1: 60000 bytes", ordered(t, of("a", strings.Repeat(" ", 60000-len(head))+head, "b", "")), "1 0")
	end := "\nvar x = 1"
	joins(t, of("a", "//"+strings.Repeat("-", 60000-len(end)-2)+end), "var x = 1")
	unjoined(t, api.ErrToken, "a.y", "a", strings.Repeat("\n", 59999)+"~y")
	refused(t, api.ErrLong, "a", "a", strings.Repeat("\n", 59999)+"y ")
}

// Which error is told where several hold.
func TestTheFirstOfTwo(t *testing.T) {
	long := strings.Repeat(" ", 60001)
	refused(t, api.ErrUnit, "_", "_", long)
	refused(t, api.ErrUnit, "a", "a", "", "a", long)
	refused(t, api.ErrLong, "a", "a", long, "_", "")
	refused(t, api.ErrUnit, "_", "_", "", "a", long)
	refused(t, api.ErrLong, "b", "a", "import _", "b", long)
	refused(t, api.ErrUnit, "_", "a", "import _", "_", "")
	refused(t, api.ErrUnit, "a", "a", "import x", "a", "import")

	refused(t, api.ErrUnit, "a.1", "a", "import ~1 x", "b", "")
	refused(t, api.ErrImport, "a.x", "a", "import ~x 1", "b", "")
	refused(t, api.ErrImport, "a.x", "a", "import ~x x", "b", "")
	refused(t, api.ErrImport, "a.a", "a", "import ~a a", "b", "")
	refused(t, api.ErrTwice, "a.b", "a", "import b ~b 1", "b", "")
	refused(t, api.ErrTwice, "a.b", "a", "import b ~b a", "b", "")
	refused(t, api.ErrTwice, "a.b", "a", "import b\nimport ~b\nimport", "b", "import")
	refused(t, api.ErrUnit, "a.", "a", "import~\nimport b b x a", "b", "import b")
	refused(t, api.ErrUnit, "a.", "a", "import b\nimport~\nimport b", "b", "import b")
	refused(t, api.ErrImport, "a.x", "a", "import b ~x", "b", "import a 1")
	refused(t, api.ErrUnit, "b.1", "a", "import b", "b", "import a ~1")
	refused(t, api.ErrImport, "b.b", "a", "import b", "b", "import a ~b")
	refused(t, api.ErrImport, "a", "a", "import b\n#", "b", "import a\n#")
	unjoined(t, api.ErrByte, "b.", "a", "import b\n#", "b", "~#")
	unjoined(t, api.ErrByte, "a.", "a", "~#", "b", "#")
}

// Units that may be told stand in the least row, of sixteen by chance.
func TestOrderByChance(t *testing.T) {
	g := dice(1)
	rings := 0
	for range 3000 {
		n := 1 + g.IntN(16)
		place := g.Perm(n)
		rows := make([][]int, n)
		for i := range rows {
			for j := range n {
				if place[j] < place[i] && g.IntN(1+n/2) == 0 {
					rows[i] = append(rows[i], j)
				}
			}
		}
		if i, j := g.IntN(n), g.IntN(n); i != j && g.IntN(3) == 0 && !slices.Contains(rows[i], j) {
			rows[i] = append(rows[i], j)
		}
		must, ring := leastRow(rows)
		if ring >= 0 {
			must = wrongTold(api.ErrImport, 0, fmt.Sprint("u", ring))
			rings++
		}
		is(t, fmt.Sprint("U1, U4: ", rows), ordered(t, numbered(rows...)), must)
	}
	if rings < 100 || rings > 2000 {
		t.Errorf("%d rings", rings)
	}
}

// leastRow takes units one by one; where none is left that may come, it is told which one leads to itself: it is left when all are taken away that nobody imports.
func leastRow(rows [][]int) (string, int) {
	var out []string
	come := make([]int, len(rows))
	for range rows {
		for i, row := range rows {
			if come[i] == 0 && !slices.ContainsFunc(row, func(j int) bool { return come[j] == 0 }) {
				come[i] = 1
				out = append(out, fmt.Sprint(i))
				break
			}
		}
	}
	for i := range rows {
		if come[i] == 0 && longWay(rows, i, i, len(rows)) {
			return "", i
		}
	}
	return strings.Join(out, " "), -1
}

// longWay tells whether one comes from one unit to another in so many steps, or fewer.
func longWay(rows [][]int, from, to, steps int) bool {
	at := map[int]int{from: 1}
	for range steps {
		next := map[int]int{}
		for i := range at {
			for _, j := range rows[i] {
				next[j] = 1
			}
		}
		if next[to] == 1 {
			return true
		}
		at = next
	}
	return false
}
