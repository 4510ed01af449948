package names_test

import (
	"slices"
	"sync"
	"testing"

	"guise/api"
	"guise/names"
	"guise/tree"
)

// roomy is a tree of its own memory, with spare room behind each list of Kids, in which something stands.
func roomy(n api.Node) api.Node {
	kids := make([]api.Node, len(n.Kids), len(n.Kids)+2)
	for i, kid := range n.Kids {
		kids[i] = roomy(kid)
	}
	spare := kids[len(kids):cap(kids)]
	for i := range spare {
		spare[i] = api.Node{Kind: 99, Text: "spare", At: -i}
	}
	n.Kids = kids
	return n
}

// alike holds trees against each other, with places, and with what stands behind the Kids.
func alike(a, b api.Node) bool {
	if a.Kind != b.Kind || a.Text != b.Text || a.N != b.N || a.At != b.At || cap(a.Kids) != cap(b.Kids) {
		return false
	}
	return slices.EqualFunc(a.Kids[:cap(a.Kids)], b.Kids[:cap(b.Kids)], func(x, y api.Node) bool {
		return x.Kind == y.Kind && (x.Kind == 99 && x.Text == y.Text && x.At == y.At || alike(x, y))
	})
}

// wipe overwrites a tree, its spare room too.
func wipe(n *api.Node) {
	kids := n.Kids[:cap(n.Kids)]
	for i := range kids {
		wipe(&kids[i])
	}
	*n = api.Node{Kind: api.NFall, Text: "wiped", N: 7, At: -7}
}

// fill overwrites an answer, its spare room too, with what no answer has.
func fill(b names.Bound) {
	for i := range b.Uses[:cap(b.Uses)] {
		b.Uses[:cap(b.Uses)][i] = names.Use{Node: -1, Kind: -1, Slot: -99, Up: -1}
	}
	for i := range b.Funcs {
		fillTaken(b.Funcs[i].Taken)
	}
	for i := range b.Funcs[:cap(b.Funcs)] {
		b.Funcs[:cap(b.Funcs)][i] = names.Func{Node: -1, Slots: -1}
	}
}

func fillTaken(taken []int) {
	for i := range taken[:cap(taken)] {
		taken[:cap(taken)][i] = -99
	}
}

const takers = "type T struct { a }\nfunc f(a, b, c) { g := func(d, e) { h := func() { return [a, d, c, e] } }; return func() { return [b, g] } }\nfunc main() { x := T{a: 1}; y := func() { return x } }"

// What is handed in is not changed, nor what stands behind it; of a program, of a wrong one, of no program.
func TestNothingIsChanged(t *testing.T) {
	g := &mender{grower: grower{dice(4)}}
	trees := []api.Node{read(t, takers), read(t, in("x := q")), read(t, "func f() { }"), {}, node(api.NInt, "1"), node(api.NProgram, "", node(api.NInt, "1"))}
	for range 100 {
		trees = append(trees, g.program(g.IntN(8)), g.right(2+g.IntN(8), nil))
	}
	for _, n := range trees {
		n = roomy(n)
		was := roomy(n)
		first := resolved(t, n)
		if !alike(n, was) {
			t.Fatalf("P4.2: %s: what was handed in is another tree", first)
		}
		if again := resolved(t, n); again != first {
			t.Errorf("a second time: %s, must be %s", again, first)
		}
	}
}

// What is handed in is not kept: the answer stays, whatever becomes of the tree.
func TestNothingIsKept(t *testing.T) {
	n := roomy(read(t, takers))
	shape := copied(n)
	b, err := names.Resolve(n)
	if err != nil {
		t.Fatal(err)
	}
	was := told(shape, b)
	wipe(&n)
	if got := told(shape, b); got != was {
		t.Errorf("P4.2: %s, was %s", got, was)
	}
	if got := resolved(t, shape); got != was {
		t.Errorf("P4.2: %s, was %s", got, was)
	}
}

// What is answered is new memory: who writes into an answer, its spare room too, changes no other one, and no other list of it.
func TestAnswersAreNew(t *testing.T) {
	n := read(t, takers)
	one, _ := names.Resolve(n)
	two, _ := names.Resolve(n)
	was := told(n, two)
	fill(one)
	if got := told(n, two); got != was {
		t.Errorf("P4.2: %s, was %s", got, was)
	}
	if got := resolved(t, n); got != was {
		t.Errorf("P4.2: %s, was %s", got, was)
	}
	for i, f := range two.Funcs {
		fresh, _ := names.Resolve(n)
		fillTaken(fresh.Funcs[i].Taken)
		fresh.Funcs[i].Taken = f.Taken
		if got := told(n, fresh); got != was {
			t.Errorf("P4.2: the lists of one answer share memory: %s, was %s", got, was)
		}
	}
	x, y := wrongOf(t, read(t, in("x := q"))), wrongOf(t, read(t, in("x := q")))
	x.Name, x.Code = "other", api.ErrMain
	if y.Name != "q" || y.Code != api.ErrUnknown {
		t.Error("P4.2: errors share memory")
	}
}

func wrongOf(t *testing.T, n api.Node) *api.Wrong {
	t.Helper()
	_, err := names.Resolve(n)
	w, ok := err.(*api.Wrong)
	if !ok {
		t.Fatalf("%v is no *api.Wrong", err)
	}
	return w
}

// An error that is none is nil itself.
func TestNoErrorIsNil(t *testing.T) {
	if _, err := names.Resolve(read(t, takers)); err != nil {
		t.Errorf("%#v", err)
	}
}

// What is answered hangs on the tree alone: again, and by several at one time, it is the same.
func TestTheSameAgain(t *testing.T) {
	g := &mender{grower: grower{dice(6)}}
	for range 20 {
		n := g.right(8, nil)
		want, _ := names.Resolve(n)
		answers := make([]names.Bound, 8)
		var all sync.WaitGroup
		for i := range answers {
			all.Go(func() { answers[i], _ = names.Resolve(n) })
		}
		all.Wait()
		for _, got := range answers {
			if !sameBound(got, want) {
				text, _ := tree.Print(n)
				t.Fatalf("%s: %s, must be %s", text, told(n, got), told(n, want))
			}
		}
	}
}
