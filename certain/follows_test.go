package certain_test

import (
	"cmp"
	"slices"
	"strings"
	"testing"

	"guise/api"
	"guise/certain"
)

// changed is a tree of its own memory, of which each node was changed.
func changed(n api.Node, change func(*api.Node)) api.Node {
	n.Kids = slices.Clone(n.Kids)
	for i, kid := range n.Kids {
		n.Kids[i] = changed(kid, change)
	}
	change(&n)
	return n
}

// byName is what Types tells, by the variables' names.
func byName(t *testing.T, n api.Node) string {
	t.Helper()
	l := strings.Split(typed(t, n), "; ")
	slices.Sort(l)
	return strings.Join(l, "; ")
}

// byPlace is what Look tells of the nodes of some places, by these.
func byPlace(t *testing.T, n api.Node, of func(at int) bool) string {
	t.Helper()
	l, err := certain.Look(n)
	if err != nil {
		t.Fatal(err)
	}
	l = slices.DeleteFunc(l, func(c certain.Claim) bool { return !of(c.At) })
	slices.SortStableFunc(l, func(a, b certain.Claim) int { return cmp.Compare(a.At, b.At) })
	return claimsTold(l, true)
}

func anywhere(int) bool { return true }

// Places are told, and nothing else hangs on them.
func TestOtherPlaces(t *testing.T) {
	g := growing(3)
	for range 300 {
		s, n := g.grown(t, false)
		was := map[int]int{}
		other := changed(n, func(n *api.Node) {
			at := g.IntN(1<<40) - 1<<39
			was[at], n.At = n.At, at
		})
		is(t, "Z5: "+s, typed(t, other), typed(t, n))
		l, err := certain.Look(other)
		if err != nil {
			t.Fatal(err)
		}
		for i := range l {
			l[i].At = was[l[i].At]
		}
		is(t, "Z5: "+s, claimsTold(l, true), claimed(t, n, true))
		alike := changed(n, func(n *api.Node) { n.At = 7 })
		is(t, "Z5: "+s, typed(t, alike)+claimed(t, alike, false), typed(t, n)+claimed(t, n, false))
	}
}

// Declarations in another order.
func TestOtherOrders(t *testing.T) {
	g := growing(4)
	for range 400 {
		s, n := g.grown(t, false)
		other := n
		other.Kids = slices.Clone(n.Kids)
		g.Shuffle(len(other.Kids), func(i, j int) { other.Kids[i], other.Kids[j] = other.Kids[j], other.Kids[i] })
		is(t, "Z5: "+s, byName(t, other), byName(t, n))
		is(t, "Z5: "+s, byPlace(t, other, anywhere), byPlace(t, n, anywhere))
		// Types tells them as they stand.
		names, _, _ := certain.Types(other)
		var stand []string
		for _, d := range other.Kids {
			if d.Kind == api.NVar {
				stand = append(stand, d.Text)
			}
		}
		is(t, "Z1: "+s, strings.Join(names, " "), strings.Join(stand, " "))
	}
}

// The two sides of an if.
func TestOtherSides(t *testing.T) {
	g := growing(5)
	turned := 0
	for range 600 {
		s, n := g.grown(t, false)
		other := changed(n, func(n *api.Node) {
			if n.Kind == api.NIf && n.Kids[2].Kind == api.NBlock && g.chance(2) {
				n.Kids[1], n.Kids[2] = n.Kids[2], n.Kids[1]
				turned++
			}
		})
		is(t, "Z5: "+s, typed(t, other), typed(t, n))
		is(t, "Z5: "+s, byPlace(t, other, anywhere), byPlace(t, n, anywhere))
	}
	if turned < 100 {
		t.Errorf("%d were turned", turned)
	}
}

// Cases without types in common: the sets stay, and so what is certain of assertions. (What comes to a case hangs on those ahead of it.)
func TestOtherCases(t *testing.T) {
	g := growing(6)
	turned, whole := 0, 0
	for range 800 {
		s, n := g.grown(t, false)
		m := newModel(n)
		asserted := map[int]bool{}
		other := changed(n, func(n *api.Node) {
			if n.Kind == api.NAssert {
				asserted[n.At] = true
			}
			if n.Kind != api.NTypeSwitch {
				return
			}
			cases := n.Kids[2:]
			for range 5 {
				if i := g.IntN(len(cases)); i > 0 && m.apart(cases[i-1], cases[i]) {
					cases[i-1], cases[i] = cases[i], cases[i-1]
					turned++
				}
			}
		})
		is(t, "Z5: "+s, typed(t, other), typed(t, n))
		is(t, "Z5: "+s, byPlace(t, other, func(at int) bool { return asserted[at] }), byPlace(t, n, func(at int) bool { return asserted[at] }))
		whole += len(asserted)
	}
	if turned < 300 || whole < 500 {
		t.Errorf("%d were turned, %d assertions", turned, whole)
	}
}

// apart: there is no type that holds one of each case's. The default has none.
func (m *model) apart(a, b api.Node) bool {
	all := append([]string{"*fault"}, basic...)
	for _, name := range m.table.Names() {
		all = append(all, name)
		if _, is := m.table.Fields(name); is {
			all = append(all, "*"+name)
		}
	}
	holdsOne := func(t string, c api.Node) bool {
		return slices.ContainsFunc(c.Kids[0].Kids, func(x api.Node) bool { return m.holds(t, typeText(x)) })
	}
	return !slices.ContainsFunc(all, func(t string) bool { return holdsOne(t, a) && holdsOne(t, b) })
}

// What is said of sets and claims together: a claim of a variable is what its set says.
func TestClaimsAsTheSets(t *testing.T) {
	g := growing(7)
	asked := counted{}
	for range 300 {
		s, n := g.grown(t, false)
		names, sets, _ := certain.Types(n)
		m := newModel(n)
		i := g.IntN(len(names))
		want := oneOf(g.Rand, "int", "any", "P", "*A", "A", "error", "text", "K", "list", "func", "R", "bool", "Q")
		more := n
		more.Kids = append(slices.Clone(n.Kids), parsed(t, "func asked__() { return "+names[i]+".("+want+") }").Kids...)
		l, err := certain.Look(more)
		if err != nil {
			t.Fatal(err)
		}
		count := 0
		for _, name := range sets[i] {
			if m.holds(name, want) {
				count++
			}
		}
		first, _ := certain.Look(n)
		got := "open"
		if len(l) > len(first) {
			got = claimsTold(l[len(first):], false)
		}
		must := "open"
		if count == 0 {
			must = want + " never"
		} else if count == len(sets[i]) {
			must = want + " always"
		}
		is(t, "Z2: "+s+want, got, must)
		asked[strings.TrimPrefix(must, want+" ")]++
	}
	asked.least(t, map[string]int{"open": 50, "never": 50})
}
