package certain_test

import (
	"errors"
	"fmt"
	"math/rand/v2"
	"strings"
	"testing"

	"guise/api"
	"guise/certain"
	"guise/parse"
	"guise/tree"
)

func parsed(t testing.TB, s string) api.Node {
	t.Helper()
	n, err := parse.Program(s)
	if err != nil {
		t.Fatalf("%s: %v", s, err)
	}
	return n
}

func printed(t testing.TB, n api.Node) string {
	t.Helper()
	s, err := tree.Print(n)
	if err != nil {
		t.Fatal(err)
	}
	return s
}

// typed is what Types answers, in one line.
func typed(t testing.TB, n api.Node) string {
	t.Helper()
	names, sets, err := certain.Types(n)
	if err != nil {
		if len(names) != 0 || len(sets) != 0 {
			t.Errorf("P2: %v, %v beside %v", names, sets, err)
		}
		return wrongTold(t, err)
	}
	return typesTold(names, sets)
}

func typesTold(names []string, sets [][]string) string {
	var out []string
	for i, name := range names {
		out = append(out, name+": "+strings.Join(sets[i], " "))
	}
	return strings.Join(out, "; ")
}

// claimed is what Look answers, in one line, with places or without.
func claimed(t testing.TB, n api.Node, places bool) string {
	t.Helper()
	l, err := certain.Look(n)
	if err != nil {
		if len(l) != 0 {
			t.Errorf("P2: %v beside %v", l, err)
		}
		return wrongTold(t, err)
	}
	return claimsTold(l, places)
}

func claimsTold(l []certain.Claim, places bool) string {
	var out []string
	for _, c := range l {
		s := c.Want + " " + map[bool]string{true: "always", false: "never"}[c.Always]
		if places {
			s += fmt.Sprint(" ", c.At)
		}
		out = append(out, s)
	}
	return strings.Join(out, "; ")
}

func wrongTold(t testing.TB, err error) string {
	t.Helper()
	w, ok := err.(*api.Wrong)
	if !ok || w == nil {
		t.Fatalf("P2: %#v is no *api.Wrong", err)
	}
	if !errors.Is(err, w.Code) {
		t.Errorf("P2: %v is not found by errors.Is", err)
	}
	return wrongText(w.Code, w.At, w.Name)
}

func wrongText(code api.Errno, at int, name string) string {
	return fmt.Sprintf("!%d at %d %q", int(code), at, name)
}

func is(t testing.TB, what, got, must string) {
	t.Helper()
	if got != must {
		t.Errorf("%s:\n%s; must be\n%s", what, got, must)
	}
}

// asTheModel holds both calls against the second reading.
func asTheModel(t testing.TB, n api.Node, text string) *model {
	t.Helper()
	m := newModel(n)
	var sets []string
	for _, v := range m.variables {
		sets = append(sets, v+": "+m.sets["G "+v].told())
	}
	is(t, "Z1: "+text, typed(t, n), strings.Join(sets, "; "))
	is(t, "Z2: "+text, claimed(t, n, true), claimsTold(m.claims(n), true))
	return m
}

// want is a program, and what is told of it: the variables' types, behind a bar the claims.
func want(t *testing.T, s, must string) {
	t.Helper()
	n := parsed(t, s)
	is(t, s, typed(t, n)+" | "+claimed(t, n, false), must)
	asTheModel(t, n, s)
}

// row is an expression, and its set.
type row struct{ e, must string }

// setOf asks for the set of an expression that stands behind some statements of main, by switches that ask for one type each.
func setOf(t *testing.T, declared, statements, e string, all []string) string {
	t.Helper()
	s := declared + "\nfunc main() { " + statements + "\nprobed := " + e + "\n"
	for _, name := range all {
		s += "switch probed.(type) { case " + name + ": }\n"
	}
	n := parsed(t, s+"}\n")
	asTheModel(t, n, s)
	claims, err := certain.Look(n)
	if err != nil {
		t.Fatalf("%s: %v", s, err)
	}
	told := map[string]bool{} // by the places: main is the last function, and these switches are its end
	for _, c := range claims[max(0, len(claims)-len(all)):] {
		if c.At > strings.Index(s, "\nprobed := ") {
			told[c.Want] = c.Always
		}
	}
	var has []string
	always := 0
	for _, name := range all {
		yes, certain := told[name]
		if yes {
			always++
		}
		if !certain || yes {
			has = append(has, name)
		}
	}
	if always > 1 {
		return "" // of nothing all is so
	}
	return strings.Join(has, " ")
}

var basic = []string{"nil", "bool", "int", "float", "text", "list", "map", "func", "fault", "*fault"}

// wantSets asks for the sets of some expressions, among the basic types and some more.
func wantSets(t *testing.T, declared, statements string, more string, rows []row) {
	t.Helper()
	for _, r := range rows {
		all := append(append([]string{}, basic...), strings.Fields(more)...)
		if got := setOf(t, declared, statements, r.e, all); got != r.must {
			t.Errorf("%s\n%s\n%s: %q; must be %q", declared, statements, r.e, got, r.must)
		}
	}
}

// dice gives the same numbers on every run.
func dice(seed uint64) *rand.Rand { return rand.New(rand.NewPCG(seed, 21)) }

func oneOf[T any](r *rand.Rand, l ...T) T { return l[r.IntN(len(l))] }
