package names_test

import (
	"testing"

	"guise/api"
	"guise/names"
	"guise/parse"
	"guise/tree"
)

// held holds Resolve's answer against the model's.
func held(t *testing.T, n api.Node, m *model) {
	t.Helper()
	want := ""
	if w, _ := m.wrong(); w != nil {
		want = wrongTold(w.Code, w.At, w.Name)
	} else {
		want = told(n, m.bound())
	}
	if got := resolved(t, n); got != want {
		text, _ := tree.Print(n)
		t.Fatalf("P4.1:\n%s\n%s, must be\n%s", text, got, want)
	}
}

// Programs by chance, with whatever is wrong, are told as the chapter says, up to where nothing is wrong.
func TestProgramsByChance(t *testing.T) {
	g := &mender{grower: grower{dice(1)}}
	codes, kinds, ups := map[api.Errno]int{}, map[int]int{}, map[int]int{}
	for range 1500 {
		n := g.right(2+g.IntN(11), func(n *api.Node, m *model) {
			g.scatter(n)
			if err := tree.Right(*n); err != nil {
				t.Fatal(err)
			}
			if w, _ := m.wrong(); w != nil {
				codes[w.Code]++
			}
			held(t, *n, m)
		})
		b, _ := names.Resolve(n)
		for _, u := range b.Uses {
			kinds[u.Kind]++
			ups[u.Up]++
		}
	}
	for _, code := range []api.Errno{api.ErrTwice, api.ErrUnknown, api.ErrUse, api.ErrLabel, api.ErrMain} {
		if codes[code] < 500 {
			t.Errorf("%s came %d times", codeNames[code], codes[code])
		}
	}
	for kind := names.Local; kind <= names.Builtin; kind++ {
		if kinds[kind] < 100 {
			t.Errorf("%s came %d times", kindSigns[kind], kinds[kind])
		}
	}
	if ups[1] < 500 || ups[2] < 15 {
		t.Errorf("how far up uses lead: %v", ups)
	}
}

// spoil changes a node by chance: its kind, its Text, its N, or how many Kids it has.
func (g grower) spoil(n *api.Node) {
	nodes := planOf(n).nodes
	at := nodes[g.IntN(len(nodes))]
	switch other := nodes[g.IntN(len(nodes))]; g.IntN(6) {
	case 0:
		at.Kind = g.IntN(api.NBinary+3) - 1
	case 1:
		at.Text = oneOf(g.Rand, "", "_", "nil", "map", "any", "func", "1", "==", g.name())
	case 2:
		at.N = 1
	case 3:
		if len(at.Kids) > 0 {
			at.Kids = at.Kids[:len(at.Kids)-1]
		}
	case 4:
		at.Kids = append(at.Kids, copied(*other))
	case 5:
		*at = copied(*other)
	}
}

// A tree that is not right is told as tree.Right tells it; else as a program, or as none.
func checkAnyTree(t *testing.T, n api.Node) (right bool) {
	t.Helper()
	err := tree.Right(n)
	switch {
	case err != nil:
		if got, want := resolved(t, n), toldError(t, err); got != want {
			t.Fatalf("P4.1: %v: %s, must be %s", n, got, want)
		}
	case n.Kind != api.NProgram:
		if got, want := resolved(t, n), wrongTold(api.ErrKind, n.At, ""); got != want {
			t.Fatalf("P4.1: %v: %s, must be %s", n, got, want)
		}
	default:
		held(t, n, modelOf(&n))
	}
	return err == nil
}

func TestSpoiltTrees(t *testing.T) {
	g := &mender{grower: grower{dice(9)}}
	count := map[bool]int{}
	for range 3000 {
		n := g.program(g.IntN(7))
		if tree.Count(n) > 500 {
			continue
		}
		for range 1 + g.IntN(3) {
			g.spoil(&n)
		}
		g.scatter(&n)
		count[checkAnyTree(t, n)]++
	}
	if count[true] < 100 || count[false] < 1000 {
		t.Errorf("right or not: %v", count)
	}
}

func FuzzResolve(f *testing.F) {
	f.Add(uint64(1), 5, 1, takers)
	f.Fuzz(func(t *testing.T, seed uint64, room, times int, text string) {
		g := &mender{grower: grower{dice(seed)}}
		n := g.right(2+max(0, min(room, 9)), func(n *api.Node, m *model) { held(t, *n, m) })
		checkSlots(t, n)
		checkOtherNames(t, n)
		checkPlaces(t, g.grower, n)
		for range max(0, min(times, 4)) {
			g.spoil(&n)
		}
		if tree.Count(n) < 1000 {
			checkAnyTree(t, n)
		}
		if read, err := parse.Program(text); err == nil && len(text) < 1000 {
			checkAnyTree(t, read)
		}
	})
}
