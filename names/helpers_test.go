package names_test

import (
	"errors"
	"math/rand/v2"
	"slices"
	"strconv"
	"strings"
	"testing"

	"guise/api"
	"guise/names"
	"guise/parse"
	"guise/tree"
)

// in is a program whose main has these statements.
func in(s string) string { return "func main() { " + s + " }" }

func read(t *testing.T, s string) api.Node {
	t.Helper()
	n, err := parse.Program(s)
	if err != nil {
		t.Fatalf("%q: %v", s, err)
	}
	return n
}

// kindSigns are the kinds of uses, by their numbers.
var kindSigns = []string{"?", "local", "global", "func", "type", "call"}

func TestKindsOfUses(t *testing.T) {
	for i, kind := range []int{names.Local, names.Global, names.Routine, names.TypeOf, names.Builtin} {
		if kind != i+1 {
			t.Errorf("the %dth kind is %d", i+1, kind)
		}
	}
}

// told writes what is bound: of each use the node's number and Text, what it is, its slot, and ^ with how far up it is, if it is; of
// each function the node's number, how many slots, and the taken ones.
func told(n api.Node, b names.Bound) string {
	var all []api.Node
	for _, node := range tree.All(n) {
		all = append(all, node)
	}
	var out []string
	for _, u := range b.Uses {
		s := strconv.Itoa(u.Node) + " " + all[u.Node].Text + " " + kindSigns[u.Kind] + " " + strconv.Itoa(u.Slot)
		if u.Up != 0 {
			s += "^" + strconv.Itoa(u.Up)
		}
		out = append(out, s)
	}
	var funcs []string
	for _, f := range b.Funcs {
		s := strconv.Itoa(f.Node) + " has " + strconv.Itoa(f.Slots)
		for _, slot := range f.Taken {
			s += " *" + strconv.Itoa(slot)
		}
		funcs = append(funcs, s)
	}
	return strings.Join(out, ", ") + "; " + strings.Join(funcs, ", ")
}

var codeNames = map[api.Errno]string{api.ErrKind: "kind", api.ErrDeep: "deep", api.ErrMany: "many", api.ErrTwice: "twice",
	api.ErrUnknown: "unknown", api.ErrUse: "use", api.ErrLabel: "label", api.ErrMain: "main"}

func wrongTold(code api.Errno, at int, name string) string {
	return strings.TrimSuffix("!"+codeNames[code]+" "+strconv.Itoa(at)+" "+name, " ")
}

// toldError writes an error as !code At Name.
func toldError(t *testing.T, err error) string {
	t.Helper()
	w, ok := err.(*api.Wrong)
	if !ok || w == nil {
		t.Fatalf("%#v is no *api.Wrong", err)
	}
	var found *api.Wrong
	if !errors.As(err, &found) || !errors.Is(err, w.Code) {
		t.Errorf("%v is not found by errors.Is and errors.As", err)
	}
	if codeNames[w.Code] == "" {
		t.Errorf("a code that names has not: %d", w.Code)
	}
	return wrongTold(w.Code, w.At, w.Name)
}

// resolved tells what Resolve answers; beside an error there is nothing.
func resolved(t *testing.T, n api.Node) string {
	t.Helper()
	b, err := names.Resolve(n)
	if err == nil {
		return told(n, b)
	}
	if len(b.Uses) != 0 || len(b.Funcs) != 0 {
		t.Errorf("beside %v stands %v", err, b)
	}
	return toldError(t, err)
}

// answer tells what Resolve answers of a text.
func answer(t *testing.T, s string) string {
	t.Helper()
	return resolved(t, read(t, s))
}

func want(t *testing.T, s, want string) {
	t.Helper()
	if got := answer(t, s); got != want {
		t.Errorf("%s:\n%s, must be\n%s", s, got, want)
	}
}

// wrong: the text has a mark, ~, ahead of the place that is told; without one nothing is wrong.
func wrong(t *testing.T, marked string, code api.Errno, name string) {
	t.Helper()
	at := strings.Index(marked, "~")
	if at < 0 {
		t.Fatalf("%s: no mark", marked)
	}
	want(t, strings.Replace(marked, "~", "", 1), wrongTold(code, at, name))
}

func fine(t *testing.T, s string) {
	t.Helper()
	if got := answer(t, s); strings.HasPrefix(got, "!") {
		t.Errorf("%s: %s, must be fine", s, got)
	}
}

// sameBound holds two answers against each other; a list of nothing may be nil.
func sameBound(a, b names.Bound) bool {
	return slices.Equal(a.Uses, b.Uses) && slices.EqualFunc(a.Funcs, b.Funcs, func(f, g names.Func) bool {
		return f.Node == g.Node && f.Slots == g.Slots && slices.Equal(f.Taken, g.Taken)
	})
}

func node(kind int, text string, kids ...api.Node) api.Node {
	return api.Node{Kind: kind, Text: text, Kids: kids}
}

// copied is a tree of its own memory.
func copied(n api.Node) api.Node {
	n.Kids = slices.Clone(n.Kids)
	for i := range n.Kids {
		n.Kids[i] = copied(n.Kids[i])
	}
	return n
}

// dice gives the same numbers on every run.
func dice(seed uint64) *rand.Rand { return rand.New(rand.NewPCG(seed, 4)) }

func oneOf[T any](r *rand.Rand, list ...T) T { return list[r.IntN(len(list))] }
