package units_test

import (
	"strings"
	"testing"

	"guise/api"
	"guise/names"
	"guise/units"
)

// bounder holds a unit's tree against what layer 4 says that its names stand for.
type bounder struct {
	t      *testing.T
	uses   map[int]names.Use
	number int
	counts map[string]int
}

// same goes over a program that layer 4 took, in which a unit's name is a variable's, and over what was joined.
func (b *bounder) same(n, got api.Node) {
	b.t.Helper()
	use := b.uses[b.number]
	inner := b.uses[b.number+1]
	b.number++
	if n.Kind == api.NSelect && n.Kids[0].Kind == api.NName && n.Kids[0].Text == "a" && inner.Kind == names.Global {
		b.number++
		b.counts["spoken of"]++
		b.is(api.Node{Kind: api.NName, Text: "a__" + n.Text, At: n.At}, got)
		return
	}
	must := n
	switch {
	case n.Text == "a" && use.Kind == names.Global:
	case use.Kind == names.Global, use.Kind == names.Routine, use.Kind == names.TypeOf && use.Slot >= 0:
		must.Text = "b__" + n.Text
		b.counts["joined"]++
	case use.Kind == names.Local:
		b.counts["variable"]++
	}
	b.is(must, got)
	for i, kid := range n.Kids {
		if n.Kind == api.NReceiver { // of its type layer 4 says nothing
			kid = shown(kid)
		}
		b.same(kid, got.Kids[i])
	}
}

// shown is a receiver's type with its joined name.
func shown(n api.Node) api.Node {
	if n.Kind == api.NPointer {
		n.Kids = []api.Node{shown(n.Kids[0])}
		return n
	}
	n.Text = "b__" + n.Text
	return n
}

func (b *bounder) is(must, got api.Node) {
	if got.Kind != must.Kind || got.Text != must.Text || got.At != must.At || len(got.Kids) != len(must.Kids) {
		b.t.Fatalf("U2: %q at %d, must be %q at %d", got.Text, got.At, must.Text, must.At)
	}
}

// simple writes programs that layer 4 mostly takes.
func simple(seed uint64) *grower {
	g := growing(seed)
	g.rules = map[string][]string{
		"VAR":    {"x", "y", "z", "a", "v", "w", "f"},
		"SEEN":   {"x", "y", "z", "a.x", "a.y", "x", "y", "z", "a.x", "a.f", "f", "a", "T{ }", "T{n: a.x}", "x.(T)", "y.(*T)", "nil(*T)", "x.T", "print(x)", "(*T).m", "T.m", "1"},
		"PLACE":  {"x", "y", "z", "a.x", "x.y", "a.y.z", "a.x[1]"},
		"PARAMS": {"", "VAR", "VAR, v1"},
		"BLOCK":  {"{ print(SEEN) }", "{ STMT }", "{ STMT; STMT }", "{ VAR := EXPR; STMT; STMT }", "{ STMT; STMT; VAR := EXPR; STMT; BLOCK; STMT }"},
		"STMT": {"print(SEEN, SEEN)", "VAR := EXPR", "VAR, w1 := (EXPR)[EXPR]", "VAR, w2 := (EXPR).(T)", "x, y = (EXPR)[SEEN]", "PLACE = EXPR", "PLACE++", "BLOCK", "if (EXPR) BLOCK", "if (EXPR) BLOCK else BLOCK",
			"for (EXPR) BLOCK", "for VAR in (EXPR) BLOCK", "for VAR, v3 in (EXPR) BLOCK", "switch (EXPR) { case EXPR, EXPR: STMT; STMT; default: STMT }",
			"switch VAR := (EXPR).(type) { case T: STMT; case *T, nil: STMT; STMT; default: STMT }", "return EXPR", "defer (EXPR)(EXPR)", "(EXPR)(EXPR)"},
		"EXPR": {"SEEN", "SEEN", "SEEN", "[SEEN, EXPR, SEEN]", "func(PARAMS) BLOCK", "func(PARAMS) BLOCK", "func() BLOCK", "EXPR + EXPR", "map{SEEN: EXPR}"},
	}
	return g
}

// Which names stand for variables of functions, layer 4 says; of programs that it takes.
func TestScopesAreThoseOfNames(t *testing.T) {
	g := simple(7)
	counts, taken := map[string]int{}, 0
	for range 2500 {
		program := g.write("func main() { STMT; STMT; STMT }\nvar x = EXPR; type T struct { n }\nfunc f(PARAMS) BLOCK\nfunc (VAR T) m(v4) BLOCK\nfunc (VAR *T) n1() { STMT }\nvar y = EXPR; var z = EXPR\n", 4)
		n := read(t, strings.Repeat(" ", len("import a\n"))+program+"var a = 1")
		bound, err := names.Resolve(n)
		if err != nil {
			continue
		}
		taken++
		l := of("main", "", "b", "import a\n"+program, "a", "var x = 1; var y = 2; func f() { }")
		joined, err := units.Join(l)
		if err != nil {
			t.Fatalf("U2: %s%v", listed(l), err)
		}
		b := &bounder{t: t, uses: map[int]names.Use{}, number: 1, counts: counts}
		for _, use := range bound.Uses {
			b.uses[use.Node] = use
		}
		for i, kid := range n.Kids[:len(n.Kids)-1] {
			b.same(kid, joined.Kids[3+i])
		}
	}
	if taken < 500 || counts["spoken of"] < 1000 || counts["joined"] < 5000 || counts["variable"] < 5000 {
		t.Errorf("%d were taken; %v", taken, counts)
	}
	if testing.Verbose() {
		t.Log(taken, counts)
	}
}
