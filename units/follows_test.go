package units_test

import (
	"errors"
	"fmt"
	"maps"
	"slices"
	"testing"

	"guise/api"
	"guise/parse"
	"guise/tree"
	"guise/units"
)

// imported are the numbers of the units that one imports.
func imported(l []units.Unit, i int) []int {
	var out []int
	for _, w := range importsOf(l[i].Source) {
		out = append(out, numberOf(l, w.text))
	}
	return out
}

// checkRow: each unit is told once, and behind all that it imports.
func checkRow(t *testing.T, l []units.Unit, row []int) {
	t.Helper()
	sorted := slices.Sorted(slices.Values(row))
	for i := range l {
		if i >= len(sorted) || sorted[i] != i {
			t.Fatalf("U4: %s%v: not each once", listed(l), row)
		}
		for _, j := range imported(l, i) {
			if slices.Index(row, j) > slices.Index(row, i) {
				t.Fatalf("U4: %s%v: %d is told ahead of %d", listed(l), row, i, j)
			}
		}
	}
}

// Order's rows, of units as they are drawn, as they stand in turn, and as they stand by chance.
func TestRows(t *testing.T) {
	g := growing(3)
	rows := 0
	for range 3000 {
		l := g.units()
		row, err := units.Order(l)
		if err != nil {
			continue
		}
		rows++
		checkRow(t, l, row)
		var inTurn []units.Unit
		for _, i := range row {
			inTurn = append(inTurn, l[i])
		}
		again, err := units.Order(inTurn)
		if err != nil || !slices.IsSorted(again) {
			t.Fatalf("U4: %s%v, %v: the numbers must rise", listed(inTurn), again, err)
		}
		g.Shuffle(len(l), func(i, j int) { l[i], l[j] = l[j], l[i] })
		other, err := units.Order(l)
		if err != nil {
			t.Fatalf("U4: %s%v", listed(l), err)
		}
		checkRow(t, l, other)
	}
	if rows < 1000 {
		t.Errorf("%d rows", rows)
	}
}

// One unit without a head is the program that its source is (the program's own place is 0); what is wrong with it is told with the unit's name.
func TestOneUnit(t *testing.T) {
	g := growing(4)
	read := 0
	for range 2000 {
		source := g.body()
		if g.chance(3) {
			source = g.spoil(source)
		}
		n, err := units.Join(of("one", source))
		if headPattern.FindString(source) != "" || errors.Is(err, api.ErrUnit) {
			continue
		}
		must, wrong := parse.Program(source)
		if w, ok := wrong.(*api.Wrong); ok {
			is(t, "U4: "+source, told(t, err), wrongTold(w.Code, w.At, "one."+w.Name))
			continue
		}
		must.At = 0
		if err != nil || drawn(n) != drawn(must) {
			t.Fatalf("U4: %q: %v, %s, must be\n%s", source, err, drawn(n), drawn(must))
		}
		read++
	}
	if read < 500 {
		t.Errorf("%d were read", read)
	}
	n, err := units.Join(of("one", "\x20 var x = 1"))
	if err != nil || n.At != 0 || n.Kids[0].At != 2 {
		t.Errorf("U2: %v, %v", n, err)
	}
}

// changed is a tree of its own memory, of which each node was changed.
func changed(n api.Node, change func(*api.Node)) api.Node {
	change(&n)
	n.Kids = slices.Clone(n.Kids)
	for i, kid := range n.Kids {
		n.Kids[i] = changed(kid, change)
	}
	return n
}

// What the units but the first are called is seen in names alone; what the first one is called, in nothing but errors.
func TestOtherNames(t *testing.T) {
	g := growing(5)
	alike := map[string]string{"a": "q", "b": "r", "c": "s", "d": "t", "e": "z", "main": "init"}
	longer := map[string]string{"a": "alpha", "b": "_b", "c": "c_", "d": "delta_1", "e": "E", "main": "m"}
	whole := 0
	for range 2000 {
		l := g.units()
		n, err := units.Join(l)
		for i, called := range []map[string]string{alike, longer} {
			if i == 1 && err != nil {
				continue
			}
			called = maps.Clone(called)
			delete(called, l[0].Name)
			other := renamed(l, called)
			m, otherErr := units.Join(other)
			if i == 0 {
				is(t, "U4: "+listed(other), told(t, otherErr), calledOtherwise(told(t, err), called))
			}
			if otherErr == nil && err == nil {
				whole++
				must := changed(n, func(n *api.Node) { n.Text = calledOtherwise(n.Text, called) })
				if !tree.Same(m, must) || i == 0 && drawn(m) != drawn(must) {
					t.Fatalf("U4: %s%s, must be\n%s", listed(other), printed(t, m), printed(t, must))
				}
			}
			row, _ := units.Order(l)
			otherRow, _ := units.Order(other)
			is(t, "U4: Order", fmt.Sprint(otherRow), fmt.Sprint(row))
		}
		if other := renamed(l, map[string]string{"main": "init"}); err == nil && l[0].Name == "main" && joined(t, other) != drawn(n) {
			t.Fatalf("U4: %sthe first one's name is seen", listed(other))
		}
	}
	if whole < 500 {
		t.Errorf("%d were joined", whole)
	}
}

// A head may be written otherwise: remarks, blanks, lines, the order of its words. Nothing but places changes, and these by the bytes that came.
func TestOtherHeads(t *testing.T) {
	g := growing(6)
	whole := 0
	for range 2000 {
		l := g.units()
		n, err := units.Join(l)
		if err != nil {
			continue
		}
		whole++
		row, _ := units.Order(l)
		other := slices.Clone(l)
		moved := make([]int, len(l))
		for i, u := range l {
			var names []string
			for _, w := range importsOf(u.Source) {
				names = append(names, w.text)
			}
			g.Shuffle(len(names), func(i, j int) { names[i], names[j] = names[j], names[i] })
			was, head := headPattern.FindString(u.Source), g.head(names)
			other[i].Source = head + u.Source[len(was):]
			moved[i] = len(head) - len(was)
		}
		m, err := units.Join(other)
		if err != nil || !tree.Same(m, n) {
			t.Fatalf("U4: %s%s%v", listed(l), listed(other), err)
		}
		at := 0
		for _, i := range row {
			for range read(t, bodyOf(l[i].Source)).Kids {
				must := changed(n.Kids[at], func(n *api.Node) { n.At += moved[i] })
				if drawn(m.Kids[at]) != drawn(must) {
					t.Fatalf("U4: %s%s: a place is another one's", listed(l), listed(other))
				}
				at++
			}
		}
	}
	if whole < 500 {
		t.Errorf("%d were joined", whole)
	}
}
