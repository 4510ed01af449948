package compile_test

import (
	"fmt"
	"slices"
	"strings"
	"testing"

	"guise/api"
	"guise/code"
	"guise/compile"
	"guise/names"
)

// outline is what the chapter says of a function's code: its head, and the places that some instructions have.
type outline struct {
	name           string
	params, around int
	places         map[code.Op][]int
}

func (o outline) String() string {
	out := fmt.Sprint(o.name, " ", o.params, " ", o.around)
	for _, op := range []code.Op{code.OpStep, code.OpCall, code.OpDefer, code.OpDeferBuilt} {
		slices.Sort(o.places[op])
		out += fmt.Sprint(" ", op, o.places[op])
	}
	return out + fmt.Sprint(" ticks ", len(o.places[code.OpTick]))
}

// outliner goes over a tree, and asks of each node what it stands for.
type outliner struct {
	number   int
	uses     map[int]int // by a node's number: which kind of thing it stands for
	declared int
	globals  []string
	funcs    []*outline
}

func outlined(t *testing.T, n api.Node) ([]string, []*outline) {
	bound, err := names.Resolve(n)
	if err != nil {
		t.Fatal(err)
	}
	o := &outliner{uses: map[int]int{}}
	for _, u := range bound.Uses {
		o.uses[u.Node] = u.Kind
	}
	o.add("", 0, -1)
	for _, d := range n.Kids {
		switch d.Kind {
		case api.NFunc:
			o.add(d.Text, len(d.Kids[0].Kids), -1)
		case api.NMethodDecl:
			of := d.Kids[0].Kids[0]
			if of.Kind == api.NPointer {
				of = of.Kids[0]
			}
			o.add(of.Text+"."+d.Text, 1+len(d.Kids[1].Kids), -1)
		}
	}
	o.over(n, 0, 0)
	o.funcs[0].places[code.OpCall] = append(o.funcs[0].places[code.OpCall], 0)
	return o.globals, o.funcs
}

func (o *outliner) add(name string, params, around int) {
	o.funcs = append(o.funcs, &outline{name, params, around, map[code.Op][]int{}})
}

// over goes over a node that stands in a function, and in a node of a kind.
func (o *outliner) over(n api.Node, in, parent int) {
	note := func(op code.Op) { o.funcs[in].places[op] = append(o.funcs[in].places[op], n.At) }
	switch n.Kind {
	case api.NVar:
		o.globals = append(o.globals, n.Text)
		note(code.OpStep)
	case api.NFunc, api.NMethodDecl:
		o.declared++
		in = o.declared
	case api.NLiteral:
		o.add("func", len(n.Kids[0].Kids), in)
		in = len(o.funcs) - 1
	case api.NFor, api.NRange:
		note(code.OpTick)
		note(code.OpStep)
	case api.NDefine, api.NDefineTwo, api.NAssign, api.NAssignTwo, api.NIf, api.NSwitch, api.NTypeSwitch, api.NReturn, api.NDo, api.NBreak, api.NContinue, api.NFall, api.NStep:
		note(code.OpStep)
	case api.NDefer:
		note(code.OpStep)
		if o.uses[o.number+2] == names.Builtin { // behind it the NCall, and then what is called
			note(code.OpDeferBuilt)
		} else {
			note(code.OpDefer)
		}
	case api.NCall:
		if of := o.uses[o.number+1]; parent != api.NDefer && (n.Kids[0].Kind != api.NName || of != names.Builtin && of != names.TypeOf) {
			note(code.OpCall)
		}
	}
	o.number++
	for _, kid := range n.Kids {
		o.over(kid, in, n.Kind)
	}
}

// numbered is a tree in which each node's place is its number.
func numbered(n api.Node) api.Node {
	count := -1
	return replaced(n, func(int) int { count++; return count })
}

// replaced is a tree with other places.
func replaced(n api.Node, place func(at int) int) api.Node {
	n.At = place(n.At)
	kids := make([]api.Node, len(n.Kids))
	for i, kid := range n.Kids {
		kids[i] = replaced(kid, place)
	}
	n.Kids = kids
	return n
}

// wantOutline holds code against what is said of it.
func wantOutline(t *testing.T, s string) {
	t.Helper()
	n := numbered(parsed(t, s))
	p, err := compile.Program(n)
	if err != nil {
		t.Fatalf("C1: %v: %s", err, brief(s))
	}
	globals, funcs := outlined(t, n)
	if !slices.Equal(globals, p.Globals) {
		t.Errorf("C2: %s\nGlobals %v; must be %v", brief(s), p.Globals, globals)
	}
	if len(funcs) != len(p.Funcs) {
		t.Fatalf("C2: %s\n%d functions; must be %d", brief(s), len(p.Funcs), len(funcs))
	}
	for i, f := range p.Funcs {
		got := outline{f.Name, f.Params, f.Around, map[code.Op][]int{}}
		for _, in := range f.Code {
			got.places[in.Op] = append(got.places[in.Op], in.At)
		}
		if got.String() != funcs[i].String() {
			t.Errorf("C2: %s\nfunction %d: %s\nmust be %s", brief(s), i, got, funcs[i])
		}
	}
}

func TestOutlines(t *testing.T) {
	t.Parallel()
	for _, s := range []string{
		"func main() { }",
		everyNode,
		world + "func main() { }",
		"var b = 1\nfunc main() { a = b }\nvar a = func(x, y) { return func() { return x } }\nvar c = [func() { }, main, func(z) { }]",
		"func z() { return func() { return func() { } } }\nfunc main() { for func() { }() { f := func() { }; f() }; switch func() { }() { case func(a) { }(): return func(b, c) { } ; case func() { }(): { } } }\nfunc (t T) main() { return func() { } }\ntype T = int\nvar g = func(d, e, f) { }",
		"func main() { { { print(1) }; { } }; if true { } else if false { } else if true { { } } else { print(2); { print(3) } } }",
		"func main() { x := 1; L: for { for x { for _ in x { for { break L } } } }; defer print(int(x), len([main()])); defer main(); defer func() { defer main() }() }",
		"func main() { main(); print(int(main())); print(main(main())); main()(); T.m(1); defer T.m(main()) }\ntype T = int\nfunc (t T) m() { return t.m() }",
		"func print() { }\nfunc main() { print(); len := print; len(); defer len(); defer print(); cap(1); defer cap(1) }",
	} {
		wantOutline(t, s)
	}
	for seed := range uint64(150) {
		if s, _, may := grownProgram(t, 1000+seed); may {
			wantOutline(t, s)
		}
	}
}

// Names, parameters and the literals' order, written out.
func TestHeads(t *testing.T) {
	t.Parallel()
	twelve := strings.Split("abcdefghijkl", "")
	for _, x := range []struct{ s, heads, globals string }{
		{"func main() { }", "0 -1|main 0 -1", ""},
		{"var z = 1\nfunc main() { }\nvar a = 2", "0 -1|main 0 -1", "z a"},
		{"func f(a, b) { }\nfunc main() { }\nfunc g(a) { }", "0 -1|f 2 -1|main 0 -1|g 1 -1", ""},
		{"type T struct { }\nfunc (t *T) m(a) { }\nfunc main() { }\nfunc (t T) n() { }\ntype U = int\nfunc (u U) m() { }\nfunc m() { }", "0 -1|T.m 2 -1|main 0 -1|T.n 1 -1|U.m 1 -1|m 0 -1", ""},
		{"type T struct { }\nfunc (t T) m(" + strings.Join(twelve, ", ") + ") { }\nfunc main() { f := func(" + strings.Join(twelve, ", ") + ") { } }", "0 -1|T.m 13 -1|main 0 -1|func 12 2", ""},
		{"var v = func(a) { return func() { } }\nfunc main() { f := func(a, b) { return func(a, b, c) { } }; for func() { }() { func(x, y, z, w) { }() } }\nvar w = func() { }", "0 -1|main 0 -1|func 1 0|func 0 2|func 2 1|func 3 4|func 0 1|func 4 1|func 0 0", "v w"},
	} {
		p := compiledText(t, x.s)
		if got := headsOf(p); got != x.heads || strings.Join(p.Globals, " ") != x.globals {
			t.Errorf("C2: %s\n%s; %v; must be\n%s; %s", x.s, got, p.Globals, x.heads, x.globals)
		}
		if err := code.Right(p); err != nil {
			t.Errorf("C2: %s: %v", x.s, err)
		}
	}
}

// The call of main is at 0, whatever main's place is.
func TestCallOfMain(t *testing.T) {
	t.Parallel()
	p := compiledText(t, "\n\n\nvar a = f()\nfunc f() { }\nfunc main() { }")
	var got []int
	for _, in := range p.Funcs[0].Code {
		if in.Op == code.OpCall {
			got = append(got, in.At)
		}
	}
	if fmt.Sprint(got) != "[12 0]" {
		t.Errorf("the calls of the beginning are at %v", got)
	}
}
