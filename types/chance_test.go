package types_test

import (
	"testing"

	"guise/api"
	"guise/parse"
	"guise/tree"
	"guise/types"
)

func text(n api.Node) string {
	s, _ := tree.Print(n)
	return s
}

// checkAnyTree: what is not right is told as tree.Right tells it, what is no program as that; else all is as in the model.
func checkAnyTree(t *testing.T, n api.Node) (fine bool) {
	t.Helper()
	if err := tree.Right(n); err != nil {
		if got, want := made(t, n), toldError(t, err); got != want {
			t.Errorf("Y1: %v: %s, must be %s", n, got, want)
		}
		return false
	}
	if n.Kind != api.NProgram {
		told(t, n, api.ErrKind, n)
		return false
	}
	return held(t, n)
}

// Programs by chance, with whatever is wrong: all is as in the model.
func TestProgramsByChance(t *testing.T) {
	g := growing(1)
	fine, wrongs, founds, paths := 0, map[api.Errno]int{}, map[int]int{}, map[int]int{}
	for range 1200 {
		n := g.program()
		for range g.IntN(4) {
			g.spoil(&n)
		}
		g.scatter(&n)
		if checkAnyTree(t, n) {
			fine++
			x, _ := types.Make(n)
			for _, of := range x.Names() {
				for _, what := range modelOf(n).spoken() {
					f := x.Find(of, g.chance(1, 2), what)
					founds[f.Kind]++
					paths[len(f.Path)]++
				}
			}
		} else if w, ok := errorOf(n).(*api.Wrong); ok {
			wrongs[w.Code]++
		}
		if t.Failed() {
			t.Fatal(text(n))
		}
	}
	for code, least := range map[api.Errno]int{api.ErrTwice: 100, api.ErrUnknown: 40, api.ErrType: 40, api.ErrCycle: 10, api.ErrReceiver: 40, api.ErrKind: 5} {
		if wrongs[code] < least {
			t.Errorf("%s came %d times", codeNames[code], wrongs[code])
		}
	}
	for kind := range api.FoundTwice + 1 {
		if founds[kind] < 200 {
			t.Errorf("the kind %d was found %d times", kind, founds[kind])
		}
	}
	if fine < 300 || paths[3] < 300 || paths[4] < 50 {
		t.Errorf("%d are fine; paths: %v", fine, paths)
	}
}

func errorOf(n api.Node) error {
	_, err := types.Make(n)
	return err
}

// Deep embedding by chance: chains, forks and loops of types that hold little else, so that ways meet at all levels.
func TestNetsByChance(t *testing.T) {
	g := growing(2)
	twice, deep := 0, 0
	for range 250 {
		n := g.net()
		if !held(t, n) || t.Failed() {
			t.Fatal(text(n))
		}
		x, _ := types.Make(n)
		for _, of := range x.Names() {
			f := x.Find(of, true, "m")
			if f.Kind == api.FoundTwice {
				twice++
			}
			if len(f.Path) > 3 {
				deep++
			}
		}
	}
	if twice < 100 || deep < 30 {
		t.Errorf("%d twice, %d deep", twice, deep)
	}
}

// net is a program of eight struct types that embed one another by pointers, seldom by value.
func (g *grower) net() api.Node {
	names := []string{"A", "B", "C", "D", "E", "F", "G", "H"}
	var out []api.Node
	for i, called := range names {
		s := node(api.NStruct, called)
		for j, to := range names {
			if g.chance(1, 5) {
				s.Kids = append(s.Kids, node(oneOf(g.Rand, api.NEmbedPointer, api.NEmbedPointer, api.NEmbed), to))
				if last := &s.Kids[len(s.Kids)-1]; j <= i {
					last.Kind = api.NEmbedPointer
				}
			}
		}
		if g.chance(1, 8) {
			s.Kids = append(s.Kids, node(api.NEmbed, "P"))
		}
		g.Shuffle(len(s.Kids), func(i, j int) { s.Kids[i], s.Kids[j] = s.Kids[j], s.Kids[i] })
		out = append(out, s)
		if g.chance(1, 5) {
			out = append(out, method(called, g.chance(1, 2), "m", 1))
		}
	}
	return program(append(out, node(api.NProtocol, "P", wish("m", 1), wish("p", 2)))...)
}

func FuzzMake(f *testing.F) {
	f.Add(uint64(1), 0, examples)
	f.Add(uint64(2), 3, "protocol P { f(0); Q }; protocol Q { error }; type T struct { .P; .*T }")
	f.Fuzz(func(t *testing.T, seed uint64, times int, s string) {
		g := growing(seed)
		n := g.program()
		for range max(0, min(times, 5)) {
			g.spoil(&n)
		}
		if checkAnyTree(t, n) {
			checkFollows(t, g, n)
		}
		if read, err := parse.Program(s); err == nil && len(s) < 500 {
			checkAnyTree(t, read)
		}
	})
}
