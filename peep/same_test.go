package peep_test

import (
	"fmt"
	"slices"
	"strings"
	"testing"

	"guise/api"
	"guise/code"
	"guise/machine"
	"guise/types"
)

// story is all that is told of a program that is played: what each Run answered, the last one's error, the events.
type story struct {
	runs   []api.Outcome
	err    error
	events []api.Event
}

// last is what the last Run answered.
func (s story) last() api.Outcome { return s.runs[len(s.runs)-1] }

// played plays code that a machine takes, in pieces of fuel, up to its end.
func played(p code.Program, t *types.Table, depth int, pieces ...int) story {
	var s story
	m, err := machine.New(p, t, depth)
	if err != nil {
		return story{runs: make([]api.Outcome, 1), err: err}
	}
	m.Watch(func(e api.Event) { s.events = append(s.events, e) })
	for _, fuel := range pieces {
		var o api.Outcome
		o, s.err = m.Run(fuel)
		s.runs = append(s.runs, o)
		if m.Over() {
			break
		}
	}
	return s
}

// refused tells why a machine does not take code that is right.
func refused(p code.Program, t *types.Table) string {
	if _, err := machine.New(p, t, 1); err != nil {
		return told(err)
	}
	return ""
}

var endNames = []string{"none", "done", "panic", "spent", "overflow", "full"}

// panicText is by which panic a run ended.
func (s story) panicText() string {
	p, is := s.err.(*api.Panicked)
	switch {
	case s.err == nil:
		return ""
	case !is:
		return "an error of another type: " + s.err.Error()
	case p.Cause == nil:
		return p.Shown
	}
	f, is := p.Cause.(*api.Fault)
	return fmt.Sprintf("%s %v %q %q", p.Shown, is, f.Word, f.More)
}

func sameOutcome(a, b api.Outcome) bool {
	return a.End == b.End && a.Steps == b.Steps && slices.Equal(a.Out, b.Out)
}

// same: two plays are alike in all that is told of them.
func (s story) same(o story) bool {
	return slices.EqualFunc(s.runs, o.runs, sameOutcome) && slices.Equal(s.events, o.events) && s.panicText() == o.panicText()
}

// String is all of it: the ends in the first lines, then the lines, then the events.
func (s story) String() string {
	var out strings.Builder
	for _, r := range s.runs {
		fmt.Fprintln(&out, endNames[r.End], r.Steps, "steps", len(r.Out), "lines")
	}
	fmt.Fprintln(&out, s.panicText())
	for _, line := range s.last().Out {
		fmt.Fprintf(&out, "%q\n", line)
	}
	for _, e := range s.events {
		fmt.Fprintf(&out, "%d at %d %q\n", e.Kind, e.At, e.Text)
	}
	return out.String()
}

// alike plays two programs, in pieces of fuel: the same comes of it.
func alike(t testing.TB, p, q code.Program, table *types.Table, depth int, pieces ...int) story {
	t.Helper()
	must, got := played(p, table, depth, pieces...), played(q, table, depth, pieces...)
	if !got.same(must) {
		t.Fatalf("S1.2: depth %d, fuels %v: %s\n%s\nbecame\n%s", depth, pieces, difference(got.String(), must.String()), brief(written(p)), brief(written(q)))
	}
	return must
}

// difference is the first line in which two texts are unlike.
func difference(got, must string) string {
	a, b := strings.Split(got, "\n"), strings.Split(must, "\n")
	for i := range max(len(a), len(b)) {
		if i >= len(a) || i >= len(b) || a[i] != b[i] {
			return fmt.Sprintf("line %d of what is told:\n%s\nmust be\n%s", i, brief(strings.Join(a[min(i, len(a)):min(i+3, len(a))], "\n")), brief(strings.Join(b[min(i, len(b)):min(i+3, len(b))], "\n")))
		}
	}
	return ""
}
