package units_test

import (
	"errors"
	"fmt"
	"math/rand/v2"
	"strings"
	"testing"

	"guise/api"
	"guise/parse"
	"guise/tree"
	"guise/units"
)

// of is units, by their names and sources in turn.
func of(l ...string) []units.Unit {
	var out []units.Unit
	for i := 0; i < len(l); i += 2 {
		out = append(out, units.Unit{Name: l[i], Source: l[i+1]})
	}
	return out
}

// listed writes units as a failure tells them.
func listed(l []units.Unit) string {
	var out strings.Builder
	for _, u := range l {
		if len(u.Source) > 2000 {
			u.Source = u.Source[:2000] + " .."
		}
		fmt.Fprintf(&out, "-- %s --\n%s\n", u.Name, u.Source)
	}
	return out.String()
}

var codeNames = map[api.Errno]string{
	api.ErrByte: "byte", api.ErrQuote: "quote", api.ErrNumber: "number", api.ErrLong: "long", api.ErrKind: "kind", api.ErrDeep: "deep", api.ErrMany: "many",
	api.ErrToken: "token", api.ErrTwice: "twice", api.ErrUnknown: "unknown", api.ErrUnit: "unit", api.ErrImport: "import",
}

func wrongTold(code api.Errno, at int, name string) string {
	return fmt.Sprintf("!%s %d %q", codeNames[code], at, name)
}

// told writes an error; nothing of none.
func told(t *testing.T, err error) string {
	t.Helper()
	if err == nil {
		return ""
	}
	w, ok := err.(*api.Wrong)
	if !ok || w == nil {
		t.Fatalf("P2: %#v is no *api.Wrong", err)
	}
	var found *api.Wrong
	if !errors.As(err, &found) || !errors.Is(err, w.Code) || codeNames[w.Code] == "" {
		t.Errorf("P2: %v is not found by errors.Is and errors.As, or has another code", err)
	}
	return wrongTold(w.Code, w.At, w.Name)
}

// ordered is what Order answers: the numbers, or the error.
func ordered(t *testing.T, l []units.Unit) string {
	t.Helper()
	numbers, err := units.Order(l)
	if err == nil {
		return strings.Trim(fmt.Sprint(numbers), "[]")
	}
	if len(numbers) != 0 {
		t.Errorf("P2: %v beside %v", numbers, err)
	}
	return told(t, err)
}

// drawn is all of a tree, with places.
func drawn(n api.Node) string {
	var out strings.Builder
	draw(&out, n)
	return out.String()
}

func draw(out *strings.Builder, n api.Node) {
	fmt.Fprintf(out, "(%d %q %d %d", n.Kind, n.Text, n.N, n.At)
	for _, kid := range n.Kids {
		draw(out, kid)
	}
	out.WriteByte(')')
}

// joined is what Join answers: the tree, all of it, or the error.
func joined(t *testing.T, l []units.Unit) string {
	t.Helper()
	n, err := units.Join(l)
	if err == nil {
		return drawn(n)
	}
	if drawn(n) != drawn(api.Node{}) {
		t.Errorf("P2: a tree beside %v", err)
	}
	return told(t, err)
}

func is(t *testing.T, what, got, must string) {
	t.Helper()
	if got != must {
		t.Errorf("%s:\n%s, must be\n%s", what, got, must)
	}
}

func read(t *testing.T, s string) api.Node {
	t.Helper()
	n, err := parse.Program(s)
	if err != nil {
		t.Fatalf("%q: %v", s, err)
	}
	return n
}

func printed(t *testing.T, n api.Node) string {
	t.Helper()
	s, err := tree.Print(n)
	if err != nil {
		t.Fatal(err)
	}
	return s
}

// joins: Join makes the program of units that a text says, whose nodes have the places that they have in their units.
func joins(t *testing.T, l []units.Unit, must string) {
	t.Helper()
	n, err := units.Join(l)
	if err != nil {
		t.Errorf("U2: %s%s, must be\n%s", listed(l), told(t, err), must)
		return
	}
	if wanted := read(t, must); !tree.Same(n, wanted) {
		t.Errorf("U2: %s%s, must be\n%s", listed(l), printed(t, n), printed(t, wanted))
	}
	if n.At != 0 {
		t.Errorf("U2: the program's place is %d", n.At)
	}
	numbers, err := units.Order(l)
	if err != nil {
		t.Fatal(err)
	}
	var bodies []api.Node
	for _, i := range numbers {
		bodies = append(bodies, read(t, bodyOf(l[i].Source)).Kids...)
	}
	placed(t, n.Kids, bodies)
}

// placed: each node has its place still; that of one that spoke of a unit is the place of its dot.
func placed(t *testing.T, got, was []api.Node) {
	t.Helper()
	if len(got) != len(was) {
		t.Errorf("U2: %d nodes, must be %d", len(got), len(was))
		return
	}
	for i, n := range got {
		if n.At != was[i].At {
			t.Errorf("U2: the place of %q is %d, must be %d", n.Text, n.At, was[i].At)
		}
		if n.Kind == was[i].Kind {
			placed(t, n.Kids, was[i].Kids)
		} else if n.Kind != api.NName || was[i].Kind != api.NSelect {
			t.Errorf("U2: a node of the kind %d, must be of %d", n.Kind, was[i].Kind)
		}
	}
}

// marked are units in one of whose sources a mark, ~, stands ahead of a place.
func marked(l ...string) ([]units.Unit, int) {
	out, at := of(l...), 0
	for i, u := range out {
		if mark := strings.Index(u.Source, "~"); mark >= 0 {
			at = mark
			out[i].Source = u.Source[:mark] + u.Source[mark+1:]
		}
	}
	return out, at
}

// refused: both calls tell the error, at the mark.
func refused(t *testing.T, code api.Errno, name string, l ...string) {
	t.Helper()
	all, at := marked(l...)
	is(t, "U1: "+listed(all), ordered(t, all), wrongTold(code, at, name))
	is(t, "U2: "+listed(all), joined(t, all), wrongTold(code, at, name))
}

// unjoined: Join alone tells the error, at the mark.
func unjoined(t *testing.T, code api.Errno, name string, l ...string) {
	t.Helper()
	all, at := marked(l...)
	if got := ordered(t, all); strings.HasPrefix(got, "!") {
		t.Errorf("U1: %s: %s", listed(all), got)
	}
	is(t, "U2: "+listed(all), joined(t, all), wrongTold(code, at, name))
}

// dice gives the same numbers on every run.
func dice(seed uint64) *rand.Rand { return rand.New(rand.NewPCG(seed, 20)) }

func oneOf[T any](r *rand.Rand, l ...T) T { return l[r.IntN(len(l))] }
