package types_test

import (
	"slices"
	"strings"
	"testing"

	"guise/api"
	"guise/parse"
	"guise/tree"
	"guise/types"
)

// checkSets: the method set of a type is among that of a pointer to it; what lacks nothing has all that is wanted.
func checkSets(t *testing.T, x *types.Table) {
	t.Helper()
	for _, of := range x.Names() {
		value, pointer := x.Methods(of, false), x.Methods(of, true)
		if kind, _ := x.Under(of); kind != api.KStruct {
			if len(pointer) > 0 {
				t.Errorf("Y3: *%s has methods: %v", of, pointer)
			}
			continue
		}
		for _, m := range value {
			if !slices.Contains(pointer, m) {
				t.Errorf("Y6: %s of %s is not in the method set of the pointer", m.Name, of)
			}
		}
	}
	for _, of := range append(x.Names(), "nobody", "int") {
		for _, pointer := range []bool{false, true} {
			set := x.Methods(of, pointer)
			for _, protocol := range append(x.Protocols(), "any") {
				wanted, _ := x.Wants(protocol)
				has := !slices.ContainsFunc(wanted, func(m api.Method) bool { return !slices.Contains(set, m) })
				if what, lacking := x.Lacks(of, pointer, protocol); lacking == has || lacking != (what != "") {
					t.Errorf("Y6: Lacks %s %s: %q %v", star(pointer, of), protocol, what, lacking)
				}
			}
		}
	}
}

// checkEmbedded: who embeds a type has at least its method set, but for what is hidden or there twice.
func checkEmbedded(t *testing.T, x *types.Table) (given int) {
	t.Helper()
	for _, of := range x.Names() {
		fields, _ := x.Fields(of)
		embeds, _ := x.Embeds(of)
		for i, how := range embeds {
			for _, pointer := range []bool{false, true} {
				set := x.Methods(fields[i], pointer || how == types.EmbedPointer)
				if how == types.EmbedProtocol {
					set, _ = x.Wants(fields[i])
				}
				for _, m := range set {
					given += promoted(t, x, of, pointer, i, m)
				}
			}
		}
	}
	return given
}

// promoted holds one method that an embedded field gives: it is in the method set, with that count; or a pointer to the type tells that
// another thing hides it, or that it is there twice.
func promoted(t *testing.T, x *types.Table, of string, pointer bool, field int, m api.Method) int {
	t.Helper()
	f := x.Find(of, true, m.Name)
	switch {
	case f.Kind == api.FoundTwice:
		return 0
	case f.Kind == 0:
		t.Errorf("Y6: %s of the field %d of %s is nothing", m.Name, field, of)
	case f.Kind == api.FoundField || len(f.Path) == 0 || f.Path[0] != field: // hidden
		return 0
	case !slices.Contains(x.Methods(of, pointer), m):
		t.Errorf("Y6: %s of the field %d is not in the method set of %s", m.Name, field, star(pointer, of))
	}
	return 1
}

// checkWishes: a protocol that embeds another one wants all that that one wants.
func checkWishes(t *testing.T, x *types.Table, n api.Node) (embedded int) {
	t.Helper()
	for _, d := range n.Kids {
		for _, k := range d.Kids {
			if d.Kind == api.NProtocol && k.Kind == api.NEmbed {
				all, _ := x.Wants(d.Text)
				some, is := x.Wants(k.Text)
				if !is || slices.ContainsFunc(some, func(m api.Method) bool { return !slices.Contains(all, m) }) {
					t.Errorf("Y6: %s wants %v, %s, that it embeds, %v", d.Text, all, k.Text, some)
				}
				embedded++
			}
		}
	}
	return embedded
}

// everything is all that a table answers of some names.
func everything(t *testing.T, x *types.Table, spoken []string) string {
	t.Helper()
	out := []string{strings.Join(x.Names(), " "), strings.Join(x.Protocols(), " ")}
	for _, of := range spoken {
		list, is := x.Wants(of)
		out = append(out, of, shapeTold(t, x, of), methodsTold(list), methodsTold(x.Methods(of, false)), methodsTold(x.Methods(of, true)))
		if is {
			out = append(out, "wants")
		}
		for _, what := range spoken {
			lack, lacking := x.Lacks(of, true, what)
			out = append(out, foundTold(t, x.Find(of, false, what)), foundTold(t, x.Find(of, true, what)), lack)
			if lacking {
				out = append(out, "lacks")
			}
		}
	}
	return strings.Join(out, "\n")
}

// checkOrder: the order of declarations, the places, the bodies change nothing of a table.
func checkOrder(t *testing.T, g *grower, n api.Node) {
	t.Helper()
	spoken := modelOf(n).spoken()
	x, _ := types.Make(n)
	want := everything(t, x, spoken)
	other := copied(n)
	g.Shuffle(len(other.Kids), func(i, j int) { other.Kids[i], other.Kids[j] = other.Kids[j], other.Kids[i] })
	g.scatter(&other)
	for i := range other.Kids {
		if d := &other.Kids[i]; d.Kind == api.NMethodDecl {
			d.Kids[2].Kids = []api.Node{node(api.NReturn, "", name("nobody"))}
			d.Kids[0].Text = "other"
		}
	}
	y, err := types.Make(other)
	if err != nil {
		t.Fatalf("Y6: %v\n%s", err, text(other))
	}
	if got := everything(t, y, spoken); got != want {
		t.Errorf("Y6: in another order another table:\n%s", text(other))
	}
	read, err := parse.Program(text(n))
	if err != nil || !tree.Same(read, n) {
		t.Fatal(err, text(n))
	}
	z, err := types.Make(read)
	if err != nil || everything(t, z, spoken) != want {
		t.Errorf("Y6: printed and read another table: %v", err)
	}
}

func checkFollows(t *testing.T, g *grower, n api.Node) (given, embedded int) {
	t.Helper()
	x, err := types.Make(n)
	if err != nil {
		t.Fatal(err)
	}
	checkSets(t, x)
	checkOrder(t, g, n)
	return checkEmbedded(t, x), checkWishes(t, x, n)
}

func TestWhatFollows(t *testing.T) {
	g := growing(3)
	given, embedded := 0, 0
	for i := range 400 {
		n := g.program()
		if i%3 == 0 {
			n = g.net()
		}
		if errorOf(n) != nil {
			continue
		}
		one, two := checkFollows(t, g, n)
		given, embedded = given+one, embedded+two
		if t.Failed() {
			t.Fatal(text(n))
		}
	}
	if given < 1000 || embedded < 50 {
		t.Errorf("%d methods by embedding, %d embedded protocols", given, embedded)
	}
}

// Whether something is wrong does not hang on the order either, only what is told.
func TestWrongInAnyOrder(t *testing.T) {
	g := growing(4)
	wrongs := 0
	for range 500 {
		n := g.program()
		for range 1 + g.IntN(2) {
			g.spoil(&n)
		}
		if tree.Right(n) != nil {
			continue
		}
		was := errorOf(n) != nil
		if was {
			wrongs++
		}
		for range 3 {
			g.Shuffle(len(n.Kids), func(i, j int) { n.Kids[i], n.Kids[j] = n.Kids[j], n.Kids[i] })
			if err := errorOf(n); (err != nil) != was {
				t.Fatalf("Y6: %v, was another thing in another order:\n%s", err, text(n))
			}
		}
	}
	if wrongs < 100 {
		t.Error(wrongs)
	}
}
