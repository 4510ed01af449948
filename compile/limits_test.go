package compile_test

import (
	"fmt"
	"slices"
	"strings"
	"testing"

	"guise/api"
	"guise/code"
	"guise/compile"
	"guise/tree"
)

// shape is a program that grows: of the last node of a kind that has Kids, in the tree's order, one Kid comes again and again.
type shape struct {
	s    string
	kind int
	from int // which Kid, counted from the last one
}

var shapes = []shape{
	{"func main() { x := 1; for _ in x { break } }", api.NBlock, 0},
	{"func main() { x := 1; L: for _ in x { for _ in x { for _ in x { continue L } } } }", api.NBlock, 0},
	{"func main() { x := 1; x++ }", api.NBlock, 0},
	{"func main() { x := 1; x = 1 }", api.NBlock, 0},
	{"func main() { x := [1]; x[0] *= 2 }", api.NBlock, 0},
	{"func main() { x := map{}; x, x = x[x] }", api.NBlock, 0},
	{"func main() { x := 1; return }", api.NBlock, 0},
	{"func main() { for { } }", api.NBlock, 0},
	{"func main() { x := 1; for x < 1 { } }", api.NBlock, 0},
	{"func main() { x := 0; for _ in x { } }", api.NBlock, 0},
	{"func main() { x := 0; for i, j in x { } }", api.NBlock, 0},
	{"func main() { x := true; if x { } }", api.NBlock, 0},
	{"func main() { x := 1; { main() } }", api.NBlock, 0},
	{"func main() { defer print() }", api.NBlock, 0},
	{"func main() { switch 1 { case 2: } }", api.NList, 0},
	{"func main() { switch 1 { case 2: } }", api.NSwitch, 0},
	{"func main() { switch 1 { case 2: fallthrough; default: } }", api.NSwitch, 1},
	{"func main() { switch { case false: } }", api.NList, 0},
	{"func main() { switch { case false: } }", api.NSwitch, 0},
	{"func main() { switch 1 { } }", api.NBlock, 0},
	{"func main() { switch 1.(type) { case text: } }", api.NList, 0},
	{"func main() { switch 1.(type) { case text: } }", api.NTypeSwitch, 0},
	{"func main() { switch v := 1.(type) { case *fault: } }", api.NTypeSwitch, 0},
	{"func main() { x := [1] }", api.NList, 0},
	{"func main() { x := [func() { }] }", api.NList, 0},
	{"func main() { x := true; y := [x && x] }", api.NList, 0},
	{"func main() { x := [nil(map)] }", api.NList, 0},
	{"func main() { x := map{1: 2} }", api.NMap, 0},
	{"func main() { x := &fault{word: [1]} }", api.NList, 0},
	{"func main() { x := 1; y := [func() { return x }] }", api.NList, 0},
	{"func main() { print(1) }", api.NCall, 0},
	{"func main() { }\nvar x = 1", api.NProgram, 0},
	{"func main() { }\nfunc f() { }", api.NProgram, 0},
	{"func main() { fault.Error = 1 }", api.NBlock, 0},
	{"func main() { fault.Error.x++ }", api.NBlock, 0},
	{"func main() { x := 1; y := func() { x++ } }", api.NBlock, 0},
}

// grow is the program with so many of that Kid; where each needs a name of its own, it has one.
func (s shape) grow(t *testing.T, times int) api.Node {
	t.Helper()
	n := parsed(t, s.s)
	last := lastOf(&n, s.kind)
	i := len(last.Kids) - 1 - s.from
	last.Kids = slices.Concat(last.Kids[:i], slices.Repeat(last.Kids[i:i+1], times), last.Kids[i+1:])
	if s.kind == api.NProgram {
		for i := range n.Kids[2:] {
			n.Kids[2+i].Text += fmt.Sprint(i)
		}
	}
	return n
}

func lastOf(n *api.Node, kind int) *api.Node {
	for i := len(n.Kids) - 1; i >= 0; i-- {
		if found := lastOf(&n.Kids[i], kind); found != nil {
			return found
		}
	}
	if n.Kind == kind && len(n.Kids) > 0 {
		return n
	}
	return nil
}

// of is the program of just so many nodes: as many of that Kid as there is room for, and a list that has the others.
func (s shape) of(t *testing.T, nodes int) api.Node {
	t.Helper()
	one, two := tree.Count(s.grow(t, 1)), tree.Count(s.grow(t, 2))
	n := s.grow(t, 1+(nodes-2-one)/(two-one))
	return padded(n, nodes-tree.Count(n))
}

// padded has so many nodes more, two at least: a variable with a list.
func padded(n api.Node, nodes int) api.Node {
	n.Kids = append(slices.Clone(n.Kids), node(api.NVar, "padded", 0, node(api.NList, "", 0, slices.Repeat([]api.Node{node(api.NInt, "1", 0)}, nodes-2)...)))
	return n
}

func instructions(p code.Program) int {
	sum := 0
	for _, f := range p.Funcs {
		sum += len(f.Code)
	}
	return sum
}

// A program of 8000 nodes has room, whatever it is.
func TestRoomOfEightThousand(t *testing.T) {
	t.Parallel()
	for _, s := range shapes {
		n := s.of(t, 8000)
		if got := tree.Count(n); got != 8000 {
			t.Fatalf("%s: %d nodes", s.s, got)
		}
		compiled(t, s.s, n).alike(t, 200, 5)
	}
}

// A program of more nodes has code that is right, or is refused; its stack may be as high as there are nodes.
func TestRoomOfMore(t *testing.T) {
	t.Parallel()
	refused, taken := 0, 0
	for _, s := range shapes {
		for _, nodes := range []int{8001, 20000} {
			n := s.of(t, nodes)
			if _, err := compile.Program(n); err == nil {
				taken++
				compiled(t, s.s, n).alike(t, 60, 3)
			} else {
				refused++
				wantWrong(t, s.s, n, api.Wrong{Code: api.ErrMany})
				if nodes == 8001 {
					t.Errorf("C1: %s: no room for %d nodes", s.s, nodes)
				}
			}
		}
	}
	if refused == 0 || taken < len(shapes) {
		t.Errorf("%d were refused, %d taken: both must come", refused, taken)
	}
}

// The last instruction that has room, and one more; and which error comes first.
func TestLastInstruction(t *testing.T) {
	t.Parallel()
	many := shape{"func main() { switch 1 { case 2: } }", api.NList, 0}.grow(t, 14000)
	few := compiled(t, "", padded(many, 2))
	room := api.MaxCode - instructions(few.code)
	if room < 1 || room > api.MaxNodes-tree.Count(few.tree) {
		t.Fatalf("the program has room for %d more", room)
	}
	full := compiled(t, "", padded(many, 2+room))
	if got := instructions(full.code); got != api.MaxCode {
		t.Fatalf("%d instructions", got)
	}
	full.alike(t, 10, 1)
	more := padded(many, 2+room+1)
	wantWrong(t, "one more", more, api.Wrong{Code: api.ErrMany})
	for _, at := range []int{-1, 60001} {
		wrong, found := withPlace(more, tree.Count(more)-1, at)
		wantWrong(t, "one more, and a place", wrong, api.Wrong{Code: api.ErrArg, At: at, Name: found.Text})
	}
	more.Kids = append(slices.Clone(more.Kids), node(api.NVar, "z", 7, node(api.NName, "nobody", 8)))
	wantWrong(t, "one more, and a name", more, api.Wrong{Code: api.ErrUnknown, At: 8, Name: "nobody"})
}

// A text is longer than its nodes are many: so one of 20000 nodes has to be short.
func TestRoomOfText(t *testing.T) {
	t.Parallel()
	for s, must := range map[string]string{
		"func main() { print(" + strings.Repeat("1,", 19000) + ") }":                                   "<nil>",
		"func main() { switch 1 { case " + strings.Repeat("1,", 19000) + "2: } }":                      `22 at 0 ""`,
		"func main() { switch 1.(type) { case " + strings.Repeat("K,", 19000) + "K: } }\ntype K = int": `22 at 0 ""`,
		"func main() { for _ in 1 { " + strings.Repeat("break;", 9990) + " } }":                        "<nil>",
	} {
		p, err := compile.Text(s)
		if wrongText(err) != must || err == nil && code.Right(p) != nil {
			t.Errorf("C1: %s: %s; must be %s", brief(s), wrongText(err), must)
		}
	}
}
