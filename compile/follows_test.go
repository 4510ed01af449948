package compile_test

import (
	"errors"
	"fmt"
	"slices"
	"testing"

	"guise/api"
	"guise/code"
	"guise/compile"
	"guise/parse"
	"guise/tree"
)

func TestPrintedAndRead(t *testing.T) {
	t.Parallel()
	for _, n := range programs(t, 3000, 80) {
		s, err := tree.Print(n)
		if errors.Is(err, api.ErrLong) {
			continue
		}
		p, _ := mustProgram(t, n)
		q, qerr := compile.Text(s)
		if err != nil || qerr != nil || !code.Same(withoutPlaces(p), withoutPlaces(q)) {
			t.Fatalf("C5: Text of what is printed: %v, %v\n%s", err, qerr, brief(s))
		}
	}
	n := shapes[23].of(t, 20000)
	for i := range n.Kids[0].Kids {
		n.Kids[0].Kids[i].At = i
	}
	s, err := tree.Print(n)
	if p, perr := compile.Text(s); err == nil && (perr != nil || !code.Same(withoutPlaces(p), withoutPlaces(compiled(t, "", n).code))) {
		t.Errorf("C5: %v", perr)
	}
}

// T10: compiled code goes there and back, as bytes and as lines.
func TestThereAndBack(t *testing.T) {
	t.Parallel()
	for _, n := range programs(t, 3500, 40) {
		p, bytes := mustProgram(t, n)
		q, err := code.Decode(bytes)
		if err != nil || !code.Same(p, q) {
			t.Fatalf("T10: by bytes: %v", err)
		}
		lines, err := code.List(p)
		r, rerr := code.Read(lines)
		if err != nil || rerr != nil || !code.Same(p, r) {
			t.Fatalf("T10: by lines: %v, %v", err, rerr)
		}
	}
}

// Text is Program of the tree.
func TestTextIsProgram(t *testing.T) {
	t.Parallel()
	for seed := range uint64(60) {
		s, n, may := grownProgram(t, 3100+seed)
		if !may {
			continue
		}
		p, err := compile.Program(n)
		q, qerr := compile.Text(s)
		if err != nil || qerr != nil || !code.Same(p, q) {
			t.Fatalf("C1: %v; %v\n%s", err, qerr, brief(s))
		}
	}
}

// Code is right with another function behind it: a declared one, or a literal of each of its functions.
func TestFunctionMore(t *testing.T) {
	t.Parallel()
	for _, n := range programs(t, 3200, 40) {
		p, bytes := mustProgram(t, n)
		more := []code.Func{{Name: "more_", Around: -1, Code: []code.Inst{{Op: code.OpNil}, {Op: code.OpReturn}}}, {Name: "More_.more_", Params: 13, Slots: 13, Around: -1, Code: []code.Inst{{Op: code.OpLoad, A: 12}, {Op: code.OpReturn}}}}
		for i := range p.Funcs {
			more = append(more, code.Func{Name: "func", Params: 1, Slots: 2, Around: i, Code: []code.Inst{{Op: code.OpLoad, A: 1}, {Op: code.OpReturn}}})
		}
		for _, f := range more {
			q := p
			q.Funcs = append(slices.Clone(p.Funcs), f)
			if err := code.Right(q); err != nil {
				t.Fatalf("C5: with %s of %d more: %v", f.Name, f.Around, err)
			}
		}
		if encodedAgain(p) != bytes+"<nil>" {
			t.Fatal("C5: its own functions were not left as they are")
		}
	}
}

// withStatement is a tree in which a statement stands more, at the beginning of a block, by the block's number.
func withStatement(n api.Node, block int, statement api.Node) api.Node {
	count := -1
	var copied func(n api.Node) api.Node
	copied = func(n api.Node) api.Node {
		kids := slices.Clone(n.Kids)
		mine := false
		if n.Kind == api.NBlock {
			count++
			mine = count == block
		}
		for i := range kids {
			kids[i] = copied(kids[i])
		}
		if mine {
			kids = append([]api.Node{statement}, kids...)
		}
		n.Kids = kids
		return n
	}
	return copied(n)
}

func blocks(n api.Node) int {
	count := 0
	for _, node := range tree.All(n) {
		if node.Kind == api.NBlock {
			count++
		}
	}
	return count
}

// neverIf is `if false { .. }` with these statements.
func neverIf(statements ...api.Node) api.Node {
	return node(api.NIf, "", 11, node(api.NName, "false", 12), node(api.NBlock, "", 13, statements...), node(api.NNone, "", 14))
}

// A statement more that is never begun does not show, whatever it is.
func TestNeverBegun(t *testing.T) {
	t.Parallel()
	g := growing(6)
	var statements []api.Node
	for _, s := range []string{"print(1)", "return", "return 1", "panic(1)", "x := 1", "for { }", "for i in 3 { break }", "L: for _ in [1] { for { continue L } }", "switch 1 { case 1: fallthrough; default: }", "switch v := 1.(type) { case int: v++ }", "defer print(2)", "defer main()", "x, y := map{}[1]", "f := func(a) { return func() { a++ } }", "main()", "{ { g0++ } }", "fault.Error = 1", "if true { } else if false { } else { }"} {
		b, err := parse.Statements(s)
		if err != nil {
			t.Fatal(err)
		}
		statements = append(statements, b.Kids[0])
	}
	asked := 0
	for seed := range uint64(60) {
		s, n, may := grownProgram(t, 3300+seed)
		if !may {
			continue
		}
		block := g.IntN(blocks(n))
		without := withStatement(n, block, neverIf())
		if tree.Right(without) != nil {
			continue
		}
		must := compiled(t, s, without).alike(t, 400, 10)
		for _, statement := range statements {
			with := withStatement(n, block, neverIf(statement))
			if tree.Right(with) != nil {
				continue
			}
			asked++
			if got := compiled(t, s, with).alike(t, 400, 10); !got.same(must) {
				t.Fatalf("C5: block %d: %s\n%s", block, difference(got.String(), must.String()), s)
			}
		}
	}
	if asked < 500 {
		t.Errorf("only %d were asked", asked)
	}
}

// What is not come to does not show: a function more, and statements behind a return.
func TestNotComeTo(t *testing.T) {
	t.Parallel()
	for seed := range uint64(60) {
		s, n, may := grownProgram(t, 3400+seed)
		if !may {
			continue
		}
		must := compiled(t, s, n).alike(t, 400, 10)
		other := parsed(t, fmt.Sprintf("func unused_(a, b) { for i in a { defer b(); x := func() { return [a, i] }; x() }; return unused_(%d, b) }", seed))
		with := n
		with.Kids = slices.Concat(n.Kids[:3], other.Kids, n.Kids[3:])
		if got := compiled(t, s, with).alike(t, 400, 10); !got.same(must) {
			t.Fatalf("C5: with a function more: %s\n%s", difference(got.String(), must.String()), s)
		}
	}
	for _, dead := range []string{"print(2)", "x := 1; x++", "for { }", "for i in 3 { break; continue; return }", "switch { default: }", "defer print(3)", "return 5", "panic(1)", "{ { } }", "f := func() { return f }", "L: for { for _ in 2 { continue L } }"} {
		wantMain(t, "var f = 0", "print(1); if f == 0 { return; "+dead+" }; print(2)", "done: 1")
		wantMain(t, "var f = 0", "for i in 2 { print(i); continue; "+dead+" }; for { break; "+dead+" }; print(3)", "done: 0|1|3")
	}
}
