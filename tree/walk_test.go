package tree_test

import (
	"slices"
	"strconv"
	"testing"

	"guise/api"
	"guise/tree"
)

// wentOver writes a tree as All goes over it.
func wentOver(n api.Node) []string {
	var out []string
	for deep, k := range tree.All(n) {
		out = append(out, strconv.Itoa(deep)+" "+toldTree(k))
	}
	return out
}

func modelOver(n api.Node, deep int) []string {
	kids := n.Kids
	n.Kids = nil
	out := []string{strconv.Itoa(deep) + " " + toldTree(n)}
	for _, kid := range kids {
		out = append(out, modelOver(kid, deep+1)...)
	}
	return out
}

// doubled is a tree of 2^levels - 1 nodes, whose lists stand in little memory.
func doubled(levels int) api.Node {
	n := named("x")
	for range levels - 1 {
		n = listed(n, n)
	}
	return n
}

// sized is a tree of just so many nodes.
func sized(count int) api.Node {
	n := listed()
	for left := count - 1; left > 0; {
		levels := 1
		for 1<<(levels+1)-1 <= left {
			levels++
		}
		n.Kids = append(n.Kids, doubled(levels))
		left -= 1<<levels - 1
	}
	return n
}

// endless stands within itself.
func endless(kids int) api.Node {
	n := api.Node{Kind: api.NList, Kids: make([]api.Node, kids)}
	for i := range n.Kids {
		n.Kids[i] = n
	}
	return n
}

func TestAllAndCount(t *testing.T) {
	r := dice(8)
	for range 40 {
		for _, root := range roots() {
			n := spoil(r, grow(r, root, r.IntN(6)))
			want := modelOver(n, 1)
			if got := wentOver(n); !slices.Equal(got, want) {
				t.Errorf("All of %s: %q, must be %q", toldTree(n), got, want)
			}
			if got := tree.Count(n); got != len(want) {
				t.Errorf("Count of %s: %d, must be %d", toldTree(n), got, len(want))
			}
		}
	}
}

func TestAnyKinds(t *testing.T) {
	n := api.Node{Kind: -7, Text: "\xff", N: -1, At: -2, Kids: []api.Node{{Kind: 99, At: 4}, {}}}
	if got := wentOver(n); !slices.Equal(got, modelOver(n, 1)) || tree.Count(n) != 3 || !tree.Same(n, n) {
		t.Error(got)
	}
	for deep, k := range tree.All(n) {
		if deep == 1 && (k.Kind != -7 || k.Text != "\xff" || k.N != -1 || k.At != -2 || k.Kids != nil) {
			t.Error("the node is another one:", k)
		}
	}
}

func TestMillion(t *testing.T) {
	for count, want := range map[int]int{1: 1, 2: 2, 999999: 999999, 1000000: 1000000, 1000001: 1000001, 1000002: 1000001, 3000000: 1000001} {
		n := sized(count)
		if got := tree.Count(n); got != want {
			t.Errorf("Count of %d nodes: %d", count, got)
		}
		came := 0
		for range tree.All(n) {
			came++
		}
		if came != min(count, 1000000) {
			t.Errorf("All of %d nodes comes %d times", count, came)
		}
		if got := tree.Same(n, n); got != (count <= 1000000) {
			t.Errorf("Same of %d nodes: %v", count, got)
		}
	}
	if tree.Same(sized(1000001), named("x")) || tree.Same(named("x"), sized(1000001)) || tree.Same(sized(1000000), sized(1000001)) {
		t.Error("they are the same")
	}
}

func TestEndlessTrees(t *testing.T) {
	for _, kids := range []int{1, 3, 100000} {
		n := endless(kids)
		if tree.Count(n) != 1000001 || tree.Same(n, n) {
			t.Error("they end")
		}
		last := 0
		for deep := range tree.All(n) {
			last = deep
		}
		if last != 1000000 {
			t.Error("All ends at the depth", last)
		}
		n.Kids[0].At = 5
		if got := toldError(t, tree.Right(n)); got != "deep@5 " {
			t.Error(got)
		}
	}
}

func TestSame(t *testing.T) {
	a := binary("+", named("a"), listed(named("b"), method("m", 2)))
	change := func(f func(n *api.Node)) api.Node {
		n := binary("+", named("a"), listed(named("b"), method("m", 2)))
		f(&n)
		return n
	}
	for i, x := range []struct {
		n    api.Node
		want bool
	}{
		{change(func(n *api.Node) {}), true},
		{change(func(n *api.Node) { n.At, n.Kids[1].At, n.Kids[1].Kids[0].At = 5, -6, 7 }), true},
		{change(func(n *api.Node) { n.Kids[0].Kids = []api.Node{} }), true},
		{change(func(n *api.Node) { n.Kind = api.NIndex }), false},
		{change(func(n *api.Node) { n.Text = "-" }), false},
		{change(func(n *api.Node) { n.N = 1 }), false},
		{change(func(n *api.Node) { n.Kids[1].Kids[1].N = 3 }), false},
		{change(func(n *api.Node) { n.Kids[1].Kids[0].Text = "c" }), false},
		{change(func(n *api.Node) { n.Kids[1].Kids[0].Kind = api.NInt }), false},
		{change(func(n *api.Node) { n.Kids = n.Kids[:1] }), false},
		{change(func(n *api.Node) { n.Kids = append(n.Kids, named("c")) }), false},
		{change(func(n *api.Node) { n.Kids[0].Kids = []api.Node{{}} }), false},
		{change(func(n *api.Node) { n.Kids[0], n.Kids[1] = n.Kids[1], n.Kids[0] }), false},
	} {
		if tree.Same(a, x.n) != x.want || tree.Same(x.n, a) != x.want {
			t.Errorf("%d: %s", i, toldTree(x.n))
		}
	}
	// The same nodes in the same order, but not within each other as there.
	if tree.Same(listed(listed(listed()), listed()), listed(listed(), listed(listed()))) || tree.Same(listed(listed(listed())), listed(listed(), listed())) {
		t.Error("they are the same")
	}
}

func TestSameGoesOn(t *testing.T) {
	r := dice(9)
	var all []api.Node
	for range 400 {
		n := grow(r, oneOf(r, "NUnary", "NReturn", "NCall"), 1)
		all = append(all, n)
	}
	same := 0
	for _, a := range all {
		for _, b := range all {
			alike := toldPlain(a) == toldPlain(b)
			if tree.Same(a, b) != alike || tree.Same(b, a) != alike {
				t.Fatalf("Same of %s and %s", toldTree(a), toldTree(b))
			}
			if alike {
				same++
			}
		}
	}
	if same < 1000 {
		t.Error("too few are the same:", same)
	}
}

// toldPlain writes a tree without its places.
func toldPlain(n api.Node) string {
	n.At = 0
	kids := slices.Clone(n.Kids)
	for i := range kids {
		kids[i].At = 0
	}
	out := kindName(n.Kind) + strconv.Quote(n.Text) + strconv.Itoa(n.N) + "("
	for _, kid := range kids {
		out += toldPlain(kid) + ","
	}
	return out + ")"
}

func TestAllIsLeftGoneOverAgainAndWithinItself(t *testing.T) {
	n := binary("+", listed(named("a"), named("b")), named("c"))
	all := tree.All(n)
	for stop := range 5 {
		var got []string
		for _, k := range all {
			got = append(got, k.Text)
			if len(got) == stop+1 {
				break
			}
		}
		if !slices.Equal(got, []string{"+", "", "a", "b", "c"}[:stop+1]) {
			t.Error("left early:", got)
		}
	}
	var pairs []string
	for _, a := range all {
		for _, b := range all {
			pairs = append(pairs, a.Text+b.Text)
		}
	}
	if len(pairs) != 25 || pairs[1] != "+" || pairs[13] != "ab" || pairs[24] != "cc" {
		t.Error("within itself:", pairs)
	}
}

// All goes over what there was when the range began: neither when All was called, nor later.
func TestAllGoesOverWhatThereWas(t *testing.T) {
	n := listed(named("a"), listed(named("b")), named("c"))
	inner := n.Kids[1].Kids
	all := tree.All(n)
	n.Kids[0].Text = "z"
	var got []string
	for _, k := range all {
		got = append(got, k.Text)
		n.Kids[0], n.Kids[2].Text = named("q"), "r"
		inner[0] = listed(named("s"))
		n.Kids[1].Kids = nil
		k.Text = "nothing"
	}
	if !slices.Equal(got, []string{"", "z", "", "b", "c"}) {
		t.Error("in the range:", got)
	}
	got = nil
	for _, k := range all {
		got = append(got, k.Text)
	}
	if !slices.Equal(got, []string{"", "q", "", "r"}) {
		t.Error("again:", got)
	}
}

// What is handed in is not changed, nor what stands behind it in its array.
func TestNothingIsWrittenInto(t *testing.T) {
	r := dice(10)
	for range 30 {
		for _, root := range roots() {
			n := grow(r, root, 4)
			if r.IntN(2) == 0 {
				n = spoil(r, n)
			}
			spare := append(n.Kids[:len(n.Kids):len(n.Kids)], named("behind"), named("behind"))
			n.Kids = spare[: len(spare)-2 : len(spare)]
			before := toldTree(n)
			tree.Right(n)
			tree.Print(n)
			tree.Count(n)
			tree.Same(n, n)
			for _, k := range tree.All(n) {
				_ = append(k.Kids, named("x"))
			}
			if toldTree(n) != before || spare[len(spare)-1].Text != "behind" || spare[len(spare)-2].Text != "behind" {
				t.Fatalf("%s was changed", before)
			}
		}
	}
}

// Two right trees that are not the same have not the same text.
func TestTextsTellTreesApart(t *testing.T) {
	r := dice(11)
	kinds := append(choices("e"), choices("s")...)
	kinds = append(slices.DeleteFunc(kinds, func(k string) bool { return rows[k].text == "" }), "NProgram")
	found := map[string]map[string]api.Node{}
	again := 0
	for range 4000 {
		for _, kind := range kinds {
			if found[kind] == nil {
				found[kind] = map[string]api.Node{}
			}
			n := grow(r, kind, r.IntN(4))
			text, err := tree.Print(n)
			if err != nil {
				t.Fatal(err)
			}
			if other, ok := found[kind][text]; ok {
				again++
				if !tree.Same(n, other) {
					t.Errorf("%q is the text of %s and of %s", text, toldTree(n), toldTree(other))
				}
			}
			found[kind][text] = n
		}
	}
	if again < 1000 {
		t.Error("too few came again:", again)
	}
}
