package compile_test

import (
	"errors"
	"fmt"
	"strings"
	"testing"

	"guise/api"
	"guise/code"
	"guise/compile"
	"guise/parse"
	"guise/tree"
	"guise/walk"
)

// grownProgram is one by chance, and whether it may be.
func grownProgram(t testing.TB, seed uint64) (string, api.Node, bool) {
	t.Helper()
	s := growing(seed).program()
	n, err := parse.Program(s)
	if err != nil {
		if !errors.Is(err, api.ErrDeep) {
			t.Fatalf("no program: %v\n%s", err, s)
		}
		return s, n, false
	}
	_, err = walk.Run(n, 0, 1)
	return s, n, !isWrong(err)
}

// The code is right, and does what walk does, whatever the fuel and the depth are.
func TestByChance(t *testing.T) {
	t.Parallel()
	count, laid := map[string]int{}, map[code.Op]int{}
	for seed := range uint64(400) {
		s, n, may := grownProgram(t, seed)
		if !may {
			continue
		}
		r := compiled(t, s, n)
		whole := r.alike(t, 700, 12)
		whole.count(count)
		for _, f := range r.code.Funcs {
			for _, in := range f.Code {
				laid[in.Op]++
			}
		}
		g := growing(seed)
		for range 3 {
			count[endNames[r.alike(t, g.IntN(whole.Steps+2), 1+g.IntN(12)).End]]++
		}
	}
	for _, some := range []string{"event 1", "event 2", "event 3", "event 4", "event 5", "event 6", "event 7", "conversion", "key", "nil", "range", "operand", "missing", "arguments", "bool", "place", "compare", "done", "spent", "overflow", "panic"} {
		if count[some] < 5 {
			t.Errorf("%s came %d times by chance", some, count[some])
		}
	}
	for op := code.OpStep; op <= code.OpDrop; op++ {
		if laid[op] < 5 {
			t.Errorf("operation %d was laid down %d times by chance", op, laid[op])
		}
	}
}

// count counts what was done in a run.
func (s story) count(count map[string]int) {
	count[endNames[s.End]]++
	for _, e := range s.events {
		count[fmt.Sprint("event ", e.Kind)]++
		if word, is := strings.CutPrefix(e.Text, `&fault{word: "`); is && e.Kind == 5 {
			count[word[:strings.IndexByte(word, '"')]]++
		}
	}
}

// turned is a tree in which one node is another one, by chance.
func (g *grower) turned(n api.Node) api.Node {
	number, count := g.IntN(tree.Count(n)), -1
	var copied func(n api.Node) api.Node
	copied = func(n api.Node) api.Node {
		count++
		mine := count == number
		kids := make([]api.Node, len(n.Kids))
		for i, kid := range n.Kids {
			kids[i] = copied(kid)
		}
		n.Kids = kids
		if mine {
			g.turn(&n)
		}
		return n
	}
	return copied(n)
}

func (g *grower) turn(n *api.Node) {
	switch g.IntN(8) {
	case 0:
		n.Kind = g.IntN(api.NBinary + 2)
	case 1, 2:
		n.Text = g.one("", "x", "g0", "int", "main", "P", "S", "print", "nil", "true", "L1", "+", "=", "*", "0", strings.Repeat("y", 41))
	case 3:
		n.N = g.IntN(3) - 1
	case 4:
		n.At = []int{-1, 60001, 60000, 0}[g.IntN(4)]
	case 5:
		if len(n.Kids) > 0 {
			n.Kids = n.Kids[:len(n.Kids)-1]
		}
	case 6:
		if len(n.Kids) > 0 {
			n.Kids = append(n.Kids, n.Kids[g.IntN(len(n.Kids))])
		}
	case 7:
		g.Shuffle(len(n.Kids), func(i, j int) { n.Kids[i], n.Kids[j] = n.Kids[j], n.Kids[i] })
	}
}

// asPromised: what is told of any tree is what walk tells, or a place; else the code is right, and does what walk does.
func asPromised(t testing.TB, what string, n api.Node) error {
	t.Helper()
	p, err := compile.Program(n)
	_, werr := walk.Run(n, 0, 1)
	var must error
	if isWrong(werr) {
		must = werr
	} else {
		for _, node := range tree.All(n) {
			if node.At < 0 || node.At > api.MaxSource {
				must = &api.Wrong{Code: api.ErrArg, At: node.At, Name: node.Text}
				break
			}
		}
	}
	if must == nil && errors.Is(err, api.ErrMany) && tree.Count(n) > 8000 {
		must = &api.Wrong{Code: api.ErrMany}
	}
	if wrongText(err) != wrongText(must) {
		t.Fatalf("C1: %s; must be %s\n%s", wrongText(err), wrongText(must), brief(what))
	}
	if err == nil {
		compiled(t, what, n).alike(t, 300, 8)
	} else if p.Funcs != nil || p.Globals != nil {
		t.Fatalf("P2: a program beside an error: %s", brief(what))
	}
	return err
}

func TestTreesByChance(t *testing.T) {
	t.Parallel()
	count := map[string]int{}
	for seed := range uint64(40) {
		s, n, may := grownProgram(t, 5000+seed)
		if !may {
			continue
		}
		g := growing(seed)
		for range 40 {
			other := g.turned(n)
			for g.chance(3) {
				other = g.turned(other)
			}
			err := asPromised(t, s, other)
			var w *api.Wrong
			if errors.As(err, &w) {
				count[fmt.Sprint(int(w.Code))]++
			} else {
				count["none"]++
			}
		}
	}
	for _, some := range []string{"none", "1", "20", "40", "41", "42", "43"} {
		if count[some] < 3 {
			t.Errorf("C1: %s came %d times by chance: %v", some, count[some], count)
		}
	}
}

func FuzzProgram(f *testing.F) {
	for seed := range uint64(20) {
		f.Add(seed, uint16(400), uint8(10))
	}
	f.Fuzz(func(t *testing.T, seed uint64, fuel uint16, depth uint8) {
		if s, n, may := grownProgram(t, seed); may {
			compiled(t, s, n).alike(t, int(fuel%2000), 1+int(depth%40))
		}
	})
}

func FuzzTree(f *testing.F) {
	for seed := range uint64(20) {
		f.Add(seed, seed, uint8(2))
	}
	f.Fuzz(func(t *testing.T, seed, turns uint64, times uint8) {
		s, n, may := grownProgram(t, seed)
		g := growing(turns)
		for range times % 8 {
			if may {
				n = g.turned(n)
			}
		}
		asPromised(t, s, n)
	})
}

// Any text is a program with code that is right, or is refused.
func FuzzText(f *testing.F) {
	for _, s := range []string{"func main() { }", keeping, everyNode, world + "func main() { f := func() { g0++ }; f() }", "func main() { L: for i in 3 { switch { default: continue L } } }"} {
		f.Add(s)
	}
	f.Fuzz(func(t *testing.T, s string) {
		n, err := parse.Program(s)
		p, terr := compile.Text(s)
		if err != nil {
			if wrongText(terr) != wrongText(err) || p.Funcs != nil {
				t.Errorf("C1: %q: %v; must be %v", s, terr, err)
			}
			return
		}
		if perr := asPromised(t, s, n); wrongText(perr) != wrongText(terr) {
			t.Errorf("C1: %q: %v; of the tree %v", s, terr, perr)
		}
	})
}
