package compile_test

import (
	"errors"
	"fmt"
	"slices"
	"strings"
	"sync"
	"testing"
	"unsafe"

	"guise/api"
	"guise/code"
	"guise/compile"
)

// roomy is a tree of its own memory, with something behind each list.
func roomy(n api.Node) api.Node {
	kids := make([]api.Node, 0, len(n.Kids)+2)
	for _, kid := range n.Kids {
		kids = append(kids, roomy(kid))
	}
	for i := len(kids); i < cap(kids); i++ {
		kids[:cap(kids)][i] = api.Node{Kind: 70 + i, Text: fmt.Sprint("behind ", i)}
	}
	n.Text, n.Kids = strings.Clone(n.Text), kids
	return n
}

// whole is all of a tree in one text, with what stands behind its lists.
func whole(n api.Node) string {
	var out strings.Builder
	var write func(n api.Node)
	write = func(n api.Node) {
		fmt.Fprintf(&out, "(%d %q %d %d", n.Kind, n.Text, n.N, n.At)
		for _, kid := range n.Kids[:cap(n.Kids)] {
			write(kid)
		}
		out.WriteString(")")
	}
	write(n)
	return out.String()
}

// spoilText writes over a text, where it lies; one of a single byte may be Go's own, which nobody can write.
func spoilText(s string) {
	if len(s) > 1 {
		b := unsafe.Slice(unsafe.StringData(s), len(s))
		for i := range b {
			b[i] = '?'
		}
	}
}

// spoilTree writes over all of a tree.
func spoilTree(n api.Node) {
	spoilText(n.Text)
	kids := n.Kids[:cap(n.Kids)]
	for i := range kids {
		spoilTree(kids[i])
		kids[i] = api.Node{Kind: -1, At: -1, N: -1}
	}
}

// spoilCode writes over all of a program, and what is behind its lists.
func spoilCode(p code.Program) {
	for _, f := range p.Funcs {
		spoilText(f.Name)
		for _, in := range f.Code {
			spoilText(in.Text)
		}
		all := f.Code[:cap(f.Code)]
		for i := range all {
			all[i] = code.Inst{Op: -1, A: -1, B: -1, At: -1}
		}
		for i := range f.Taken[:cap(f.Taken)] {
			f.Taken[:cap(f.Taken)][i] = -99
		}
	}
	for _, s := range p.Globals {
		spoilText(s)
	}
	clear(p.Globals[:cap(p.Globals)])
	clear(p.Funcs[:cap(p.Funcs)])
}

// keeping is a program with texts that are long enough to be written over.
const keeping = `
type Type struct { field; .Inner }
type Inner struct { other }
type Kind = int
protocol Proto { method(1) }
func (t *Type) method(param) { return func() { t.field = param; return [param, t] } }
var global = map{"key": "value", 12345: 1.25}
var another = nil(*Type)
func function(one, two) { return Type{field: one, Inner: Inner{other: two}} }
func main() {
	local := &Type{field: "text"}; outer := 10
	local.method("argument")()
	global["new"] += function(10, 20).field
	defer (*Type).method(local, global)
	switch value := local.(type) { case *Type, Proto: print(value.other, Kind(77)) }
	f := func() { return func() { outer++; return append([outer], local, global[10:20]) } }
	Type.method.field = 12
}
`

func programs(t *testing.T, seed uint64, count int) []api.Node {
	out := []api.Node{parsed(t, keeping), parsed(t, everyNode), parsed(t, world+"func main() { }")}
	for i := range count {
		if _, n, may := grownProgram(t, seed+uint64(i)); may {
			out = append(out, n)
		}
	}
	return out
}

func mustProgram(t *testing.T, n api.Node) (code.Program, string) {
	t.Helper()
	p, err := compile.Program(n)
	if err != nil {
		t.Fatal(err)
	}
	bytes, err := code.Encode(p)
	if err != nil {
		t.Fatal(err)
	}
	return p, bytes
}

func encodedAgain(p code.Program) string {
	bytes, err := code.Encode(p)
	return bytes + fmt.Sprint(err)
}

func TestNothingIsChanged(t *testing.T) {
	t.Parallel()
	for _, n := range programs(t, 2000, 40) {
		n = roomy(n)
		was := whole(n)
		mustProgram(t, n)
		if whole(n) != was {
			t.Fatal("C4: the tree was changed")
		}
	}
	for _, n := range []api.Node{programOf(), mainOf(), programOf(mainOf(returning(node(api.NText, "far", -1)))), shapes[14].of(t, 20000)} {
		n = roomy(n)
		was := whole(n)
		if _, err := compile.Program(n); err == nil || whole(n) != was {
			t.Errorf("C4: the tree was changed, or %v", err)
		}
	}
}

func TestNothingIsKept(t *testing.T) {
	t.Parallel()
	for _, n := range programs(t, 2100, 40) {
		n = roomy(n)
		p, bytes := mustProgram(t, n)
		spoilTree(n)
		if encodedAgain(p) != bytes+"<nil>" {
			t.Fatal("C4: code changes with the tree that was handed in")
		}
	}
	s := strings.Clone(keeping)
	p, err := compile.Text(s)
	bytes := encodedAgain(p)
	spoilText(s)
	if err != nil || encodedAgain(p) != bytes {
		t.Error("C4: code changes with the text that was handed in")
	}
}

func TestAnswersAreNew(t *testing.T) {
	t.Parallel()
	for _, n := range programs(t, 2200, 40) {
		n = roomy(n)
		was := whole(n)
		p, bytes := mustProgram(t, n)
		q, _ := mustProgram(t, n)
		spoilCode(p)
		if whole(n) != was {
			t.Fatal("P3: code shares memory with the tree")
		}
		if encodedAgain(q) != bytes+"<nil>" {
			t.Fatal("P3: two answers share memory")
		}
		if r, again := mustProgram(t, n); again != bytes || !code.Same(q, r) {
			t.Fatal("C4: the same tree gives other code, once an answer was written over")
		}
	}
}

// No two lists of one answer share memory, spare room too.
func TestListsAreApart(t *testing.T) {
	t.Parallel()
	for _, n := range programs(t, 2300, 40) {
		p, bytes := mustProgram(t, n)
		for _, f := range p.Funcs {
			for i := len(f.Code); i < cap(f.Code); i++ {
				f.Code[:cap(f.Code)][i] = code.Inst{Op: 99, Text: "behind"}
			}
			for i := len(f.Taken); i < cap(f.Taken); i++ {
				f.Taken[:cap(f.Taken)][i] = 12345
			}
		}
		for i := len(p.Globals); i < cap(p.Globals); i++ {
			p.Globals[:cap(p.Globals)][i] = "behind"
		}
		if encodedAgain(p) != bytes+"<nil>" {
			t.Fatal("P3: behind one list another one lies")
		}
	}
}

func TestErrorsAreNew(t *testing.T) {
	t.Parallel()
	for _, n := range []api.Node{
		node(api.NText, "a text that is no program", 5),
		programOf(mainOf(returning(node(api.NText, "a text at a wrong place", 60001)))),
		programOf(mainOf(returning(node(api.NName, "unknown", 5)))),
		programOf(mainOf(), node(api.NType, "Name", 5, node(api.NName, "Other", 6))),
	} {
		n = roomy(n)
		was := whole(n)
		_, err := compile.Program(n)
		must := strings.Clone(wrongText(err))
		_, other := compile.Program(n)
		var w *api.Wrong
		if !errors.As(other, &w) {
			t.Fatal(other)
		}
		spoilText(w.Name)
		w.At, w.Code = 77, 77
		if whole(n) != was || wrongText(err) != must {
			t.Errorf("P3: an error shares memory: %s; must be %s", wrongText(err), must)
		}
		spoilTree(n)
		if wrongText(err) != must {
			t.Errorf("P3: an error changes with the tree: %s; must be %s", wrongText(err), must)
		}
	}
}

func TestSameTreeSameCode(t *testing.T) {
	t.Parallel()
	for _, n := range programs(t, 2400, 40) {
		p, bytes := mustProgram(t, n)
		var all sync.WaitGroup
		answers := make([]string, 4)
		for i := range answers {
			all.Go(func() {
				q, _ := compile.Program(n)
				answers[i] = encodedAgain(q)
			})
		}
		all.Wait()
		if q, again := mustProgram(t, roomy(n)); again != bytes || !code.Same(p, q) || slices.ContainsFunc(answers, func(s string) bool { return s != bytes+"<nil>" }) {
			t.Fatal("C4: the same tree gives other code")
		}
	}
}

// withoutPlaces is code whose places are all 0.
func withoutPlaces(p code.Program) code.Program {
	for _, f := range p.Funcs {
		for i := range f.Code {
			f.Code[i].At = 0
		}
	}
	return p
}

func TestOtherPlaces(t *testing.T) {
	t.Parallel()
	g := growing(5)
	for _, n := range programs(t, 2500, 60) {
		p, _ := mustProgram(t, n)
		p = withoutPlaces(p)
		for _, place := range []func(int) int{
			func(int) int { return 0 }, func(int) int { return 60000 }, func(at int) int { return 60000 - at }, func(int) int { return g.IntN(60001) },
		} {
			other := replaced(n, place)
			r := compiled(t, "other places", other)
			r.alike(t, 300, 10)
			if !code.Same(withoutPlaces(r.code), p) {
				t.Fatal("C4: other places give other code")
			}
		}
	}
}
