package compile_test

import (
	"errors"
	"fmt"
	"slices"
	"strings"
	"testing"

	"guise/api"
	"guise/code"
	"guise/compile"
	"guise/machine"
	"guise/parse"
	"guise/types"
	"guise/walk"
)

const (
	muchFuel  = 20000
	muchDepth = 60
)

func parsed(t testing.TB, s string) api.Node {
	t.Helper()
	n, err := parse.Program(s)
	if err != nil {
		t.Fatalf("%s: %v", brief(s), err)
	}
	return n
}

func brief(s string) string {
	if len(s) > 800 {
		return s[:800] + fmt.Sprintf(".. (%d bytes)", len(s))
	}
	return s
}

var endNames = []string{"none", "done", "panic", "spent", "overflow", "full"}

// story is all that is told of a run.
type story struct {
	api.Outcome
	err    error
	events []api.Event
}

// panicText is by which panic a run ended.
func (s story) panicText() string {
	p, is := s.err.(*api.Panicked)
	switch {
	case s.err == nil:
		return ""
	case !is:
		return "an error of another type: " + s.err.Error()
	case p.Cause == nil:
		return p.Shown
	}
	f, is := p.Cause.(*api.Fault)
	return fmt.Sprintf("%s %v %q %q", p.Shown, is, f.Word, f.More)
}

// same: two runs are alike in all that is told of them.
func (s story) same(o story) bool {
	return s.End == o.End && s.Steps == o.Steps && slices.Equal(s.Out, o.Out) && slices.Equal(s.events, o.events) && s.panicText() == o.panicText()
}

// String is all of it: the end in the first line, then the lines, then the events.
func (s story) String() string {
	var out strings.Builder
	fmt.Fprintln(&out, endNames[s.End], s.Steps, "steps", s.panicText())
	for _, line := range s.Out {
		fmt.Fprintf(&out, "%q\n", line)
	}
	for _, e := range s.events {
		fmt.Fprintf(&out, "%d at %d %q\n", e.Kind, e.At, e.Text)
	}
	return out.String()
}

// walked is what walk does with a tree.
func walked(n api.Node, fuel, depth int) story {
	var s story
	s.Outcome, s.err = walk.Watch(n, fuel, depth, func(e api.Event) { s.events = append(s.events, e) })
	return s
}

// played is what a machine does with code that it takes.
func played(p code.Program, t *types.Table, fuel, depth int) story {
	var s story
	m, err := machine.New(p, t, depth)
	if err != nil {
		return story{err: err}
	}
	m.Watch(func(e api.Event) { s.events = append(s.events, e) })
	s.Outcome, s.err = m.Run(fuel)
	return s
}

// run is a program that is played both ways.
type run struct {
	text  string
	tree  api.Node
	code  code.Program
	table *types.Table
}

// compiled is the code of a program that may be; it is right, and a machine takes it.
func compiled(t testing.TB, text string, n api.Node) run {
	t.Helper()
	p, err := compile.Program(n)
	if err != nil {
		t.Fatalf("C1: %v\n%s", err, brief(text))
	}
	if err := code.Right(p); err != nil {
		t.Fatalf("C2: the code is not right: %v\n%s\n%s", err, brief(text), lines(p))
	}
	table, err := types.Make(n)
	if err != nil {
		t.Fatal(err)
	}
	if _, err := machine.New(p, table, 1); err != nil {
		t.Fatalf("C3: no machine takes the code: %v\n%s", err, brief(text))
	}
	return run{text, n, p, table}
}

// lines is code as it is, right or not.
func lines(p code.Program) string {
	out := fmt.Sprintln("globals", p.Globals)
	for i, f := range p.Funcs {
		out += fmt.Sprintf("%d: %s %d %d %d %v\n", i, f.Name, f.Params, f.Slots, f.Around, f.Taken)
		for j, in := range f.Code {
			out += fmt.Sprintf("\t%d: %d %d %d %q at %d\n", j, in.Op, in.A, in.B, in.Text, in.At)
		}
	}
	return out
}

// alike plays both: the same comes of it.
func (r run) alike(t testing.TB, fuel, depth int) story {
	t.Helper()
	must, got := walked(r.tree, fuel, depth), played(r.code, r.table, fuel, depth)
	if !got.same(must) {
		list, _ := code.List(r.code)
		t.Fatalf("C3: fuel %d, depth %d: %s\n%s\n%s", fuel, depth, brief(r.text), difference(got.String(), must.String()), brief(list))
	}
	return got
}

// difference is the first line in which two texts are unlike.
func difference(got, must string) string {
	a, b := strings.Split(got, "\n"), strings.Split(must, "\n")
	for i := range max(len(a), len(b)) {
		if i >= len(a) || i >= len(b) || a[i] != b[i] {
			return fmt.Sprintf("line %d of what is told:\n%s\nmust be\n%s", i, brief(strings.Join(a[min(i, len(a)):min(i+3, len(a))], "\n")), brief(strings.Join(b[min(i, len(b)):min(i+3, len(b))], "\n")))
		}
	}
	return ""
}

// wrongText is an error in one text.
func wrongText(err error) string {
	var w *api.Wrong
	if !errors.As(err, &w) {
		return fmt.Sprint(err)
	}
	return fmt.Sprintf("%d at %d %q", int(w.Code), w.At, w.Name)
}
