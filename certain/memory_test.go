package certain_test

import (
	"strings"
	"sync"
	"testing"
	"unsafe"

	"guise/api"
	"guise/certain"
)

// own is a text in memory of its own, that can be written over.
func own(s string) string {
	if s == "" {
		return ""
	}
	b := append([]byte(nil), s...)
	return unsafe.String(&b[0], len(b))
}

// wipe writes over a text's bytes; one of a single byte may be Go's own, which nobody can write.
func wipe(s string) {
	if len(s) > 1 {
		b := unsafe.Slice(unsafe.StringData(s), len(s))
		for i := range b {
			b[i] = '~'
		}
	}
}

// ownTree is a tree in memory of its own, with something behind each list.
func ownTree(n api.Node) api.Node {
	out := api.Node{Kind: n.Kind, Text: own(n.Text), N: n.N, At: n.At, Kids: make([]api.Node, len(n.Kids), len(n.Kids)+2)}
	for i, kid := range n.Kids {
		out.Kids[i] = ownTree(kid)
	}
	for i := len(n.Kids); i < cap(out.Kids); i++ {
		out.Kids[:cap(out.Kids)][i] = api.Node{Kind: 77, Text: own("behind"), At: i}
	}
	return out
}

func sameTree(a, b api.Node) bool {
	if a.Kind != b.Kind || a.Text != b.Text || a.N != b.N || a.At != b.At || len(a.Kids) != len(b.Kids) || cap(a.Kids) != cap(b.Kids) {
		return false
	}
	x, y := a.Kids[:cap(a.Kids)], b.Kids[:cap(b.Kids)]
	for i := range x {
		if !sameTree(x[i], y[i]) {
			return false
		}
	}
	return true
}

func wipeTree(n *api.Node) {
	kids := n.Kids[:cap(n.Kids)]
	for i := range kids {
		wipeTree(&kids[i])
	}
	wipe(n.Text)
	*n = api.Node{Kind: 99, Text: "?"}
}

// several are programs of all kinds, and trees that are refused.
func several(t *testing.T) []api.Node {
	t.Helper()
	out := []api.Node{{Kind: api.NInt, Text: "some text", At: 3}, {Kind: api.NProgram, Text: "some text"}, {Kind: 77, Text: strings.Repeat("long", 30)}}
	for _, s := range []string{
		"var first = 1\nvar second = first\nfunc main() { print(first.(int), first.(Some), first.(*Some), first.(None)); switch first.(type) { case nil, None, *Some: case text: } }\ntype Some struct { field }\nprotocol None { }",
		"func main() { nothing = 1 }", "func nobody() { }", "func main() { }\ntype Some struct { .Some }", "func main() { }\nfunc (some Nothing) what() { }",
	} {
		out = append(out, parsed(t, s))
	}
	g := growing(9)
	for range 60 {
		_, n := g.grown(t, false)
		out = append(out, n)
	}
	return out
}

// What was handed in is as it was, is written over then, and nothing of that is seen.
func TestWhatIsHandedIn(t *testing.T) {
	for _, n := range several(t) {
		types, claims := typed(t, n), claimed(t, n, true)
		mine := ownTree(n)
		names, sets, err := certain.Types(mine)
		l, lookErr := certain.Look(mine)
		if !sameTree(mine, ownTree(n)) {
			t.Fatal("Z3: what is handed in is written into")
		}
		wipeTree(&mine)
		if err != nil {
			is(t, "Z3: an error", wrongTold(t, err), types)
			is(t, "Z3: an error", wrongTold(t, lookErr), claims)
			continue
		}
		is(t, "Z3: Types", typesTold(names, sets), types)
		is(t, "Z3: Look", claimsTold(l, true), claims)
	}
}

// What came out is written over, spare room too: another answer, and a later one, are as they were.
func TestWhatComesOut(t *testing.T) {
	for _, n := range several(t) {
		types, claims := typed(t, n), claimed(t, n, true)
		names, sets, err := certain.Types(n)
		otherNames, otherSets, _ := certain.Types(n)
		l, lookErr := certain.Look(n)
		other, _ := certain.Look(n)
		for _, e := range []error{err, lookErr} {
			if w, ok := e.(*api.Wrong); ok {
				wipe(w.Name)
				*w = api.Wrong{}
			}
		}
		wipeAll(names)
		for _, set := range sets {
			wipeAll(set)
		}
		for i := range sets[:cap(sets)] {
			sets[:cap(sets)][i] = []string{"?"}
		}
		for _, c := range l {
			wipe(c.Want)
		}
		for i := range l[:cap(l)] {
			l[:cap(l)][i] = certain.Claim{At: -1, Want: "?"}
		}
		if err == nil {
			is(t, "Z3: another answer", typesTold(otherNames, otherSets), types)
			is(t, "Z3: another answer", claimsTold(other, true), claims)
		}
		is(t, "Z3: a later answer", typed(t, n), types)
		is(t, "Z3: a later answer", claimed(t, n, true), claims)
	}
}

func wipeAll(l []string) {
	for _, s := range l {
		wipe(s)
	}
	for i := range l[:cap(l)] {
		l[:cap(l)][i] = "?"
	}
}

// Each list of an answer has its own memory, and each text has.
func TestNothingIsShared(t *testing.T) {
	for _, n := range several(t) {
		names, sets, err := certain.Types(n)
		if err != nil {
			continue
		}
		was := typesTold(names, sets)
		for _, set := range sets {
			for i := range set[len(set):cap(set)] {
				set[len(set):cap(set)][i] = "?"
			}
		}
		_ = append(names, "?")
		is(t, "P3: the lists share memory", typesTold(names, sets), was)
		l, _ := certain.Look(n)
		seen := map[*byte]bool{}
		take := func(s string) {
			if at := unsafe.StringData(s); len(s) > 1 && seen[at] {
				t.Fatalf("P3: %q shares memory", s)
			} else {
				seen[at] = true
			}
		}
		for _, name := range names {
			take(name)
		}
		for _, set := range sets {
			for _, name := range set {
				take(name)
			}
		}
		for _, c := range l {
			take(c.Want)
		}
	}
}

// Again, and by several goroutines at one time, it is the same.
func TestTheSameAgain(t *testing.T) {
	for _, n := range several(t) {
		must := typed(t, n) + " | " + claimed(t, n, true)
		got := make([]string, 8)
		var all sync.WaitGroup
		for i := range got {
			all.Go(func() { got[i] = typed(t, n) + " | " + claimed(t, n, true) })
		}
		all.Wait()
		for _, one := range got {
			is(t, "P4", one, must)
		}
	}
}
