package machine_test

import (
	"fmt"
	"slices"
	"strings"
	"testing"

	"guise/api"
	"guise/code"
	"guise/machine"
	"guise/types"
	"guise/walk"
)

// panicText is by which panic a run ended, with all that is said of it.
func (s story) panicText() string {
	p, is := s.err.(*api.Panicked)
	switch {
	case s.err == nil:
		return ""
	case !is:
		return "an error of another type: " + s.err.Error()
	case p.Cause == nil:
		return p.Shown
	}
	f, is := p.Cause.(*api.Fault)
	return fmt.Sprintf("%s %v %q %q", p.Shown, is, f.Word, f.More)
}

func sameOutcome(a, b api.Outcome) bool {
	return a.End == b.End && a.Steps == b.Steps && slices.Equal(a.Out, b.Out)
}

// same: two plays are alike in all that is told of them; in how many things there are, if both have counted them.
func (s story) same(o story) bool {
	return slices.EqualFunc(s.runs, o.runs, sameOutcome) && slices.Equal(s.events, o.events) && s.panicText() == o.panicText() &&
		(s.counts == nil || o.counts == nil || slices.Equal(s.counts, o.counts))
}

// String is all of it, but for the operations.
func (s story) String() string {
	var out strings.Builder
	for i, r := range s.runs {
		fmt.Fprint(&out, endNames[r.End], " ", r.Steps, " steps ", len(r.Out), " lines")
		if i < len(s.counts) {
			fmt.Fprint(&out, " things ", s.counts[i])
		}
		fmt.Fprintln(&out)
	}
	fmt.Fprintln(&out, s.panicText())
	for _, line := range s.last().Out {
		fmt.Fprintf(&out, "%q\n", line)
	}
	for _, e := range s.events {
		fmt.Fprintf(&out, "%d at %d %q\n", e.Kind, e.At, e.Text)
	}
	return out.String()
}

// difference is the first line in which two texts are unlike.
func difference(got, must string) string {
	a, b := strings.Split(got, "\n"), strings.Split(must, "\n")
	for i := range max(len(a), len(b)) {
		if i >= len(a) || i >= len(b) || a[i] != b[i] {
			return fmt.Sprintf("line %d of what is told:\n%s\nmust be\n%s", i, brief(strings.Join(a[min(i, len(a)):min(i+3, len(a))], "\n")), brief(strings.Join(b[min(i, len(b)):min(i+3, len(b))], "\n")))
		}
	}
	return ""
}

// between is what is done between two Runs: the machine that goes on, and what was counted.
type between func(m *machine.Machine) (*machine.Machine, *[3]int)

func nothingBetween(m *machine.Machine) (*machine.Machine, *[3]int) { return m, nil }

// counted collects, twice: the second time nothing is forgotten.
func counted(t testing.TB) between {
	return func(m *machine.Machine) (*machine.Machine, *[3]int) {
		t.Helper()
		things := m.Things()
		out := &[3]int{things, m.Collect(), m.Things()}
		if n := m.Collect(); n != 0 || m.Things() != out[2] || out[0]-out[1] != out[2] {
			t.Fatalf("P16.3: of %d things %d were forgotten, so %d are left; and then %d, so %d", out[0], out[1], out[2], n, m.Things())
		}
		return m, out
	}
}

// kept saves and loads; what was loaded says the same bytes, has as many things, and can come to as many.
func kept(t testing.TB, p code.Program, table *types.Table) between {
	return func(m *machine.Machine) (*machine.Machine, *[3]int) {
		t.Helper()
		b := saved(t, m)
		again := loaded(t, b, p, table)
		if saved(t, again) != b || saved(t, m) != b || again.Things() != m.Things() || again.Over() != m.Over() {
			t.Fatalf("P16.4: what was loaded is another one: %d things, over %v; it was %d, %v", again.Things(), again.Over(), m.Things(), m.Over())
		}
		other := loaded(t, b, p, table)
		if must, got := m.Collect(), other.Collect(); got != must || other.Things() != m.Things() {
			t.Fatalf("P16.4: of what was loaded %d things are forgotten; it was %d", got, must)
		}
		return again, nil
	}
}

// ran plays code that a machine takes, in pieces of fuel, up to its end.
func ran(t testing.TB, p code.Program, table *types.Table, depth int, do between, pieces ...int) story {
	t.Helper()
	var s story
	m := made(t, p, table, depth)
	for _, fuel := range pieces {
		m.Watch(func(e api.Event) { s.events = append(s.events, e) })
		o, err := m.Run(fuel)
		if len(s.runs) > 0 {
			was := s.last().Out
			if len(o.Out) < len(was) || !slices.Equal(o.Out[:len(was)], was) {
				t.Fatalf("P16.2: lines that were told are others then: %q; they were %q", o.Out, was)
			}
			copy(o.Out, was) // all lines are told each time: they are kept once
		}
		s.runs, s.err = append(s.runs, o), err
		over := m.Over()
		if over != (o.End != api.Spent) {
			t.Fatalf("P16.2: %s, and Over says %v", endNames[o.End], over)
		}
		var counts *[3]int
		if m, counts = do(m); counts != nil {
			s.counts = append(s.counts, *counts)
		}
		if over {
			wantOver(t, m, o, err, len(s.events), &s.events)
			break
		}
	}
	return s
}

// wantOver: a machine that is over answers the same again, in new memory, and tells nothing.
func wantOver(t testing.TB, m *machine.Machine, o api.Outcome, err error, told int, events *[]api.Event) {
	t.Helper()
	for _, fuel := range []int{0, 7, api.MaxFuel} {
		again, aerr := m.Run(fuel)
		if !sameOutcome(o, again) || (story{err: err}).panicText() != (story{err: aerr}).panicText() || !m.Over() || len(*events) != told {
			t.Fatalf("P16.2: a machine that is over answers %s, then %s", ended(o, err), ended(again, aerr))
		}
		if err != nil && err == aerr {
			t.Fatal("P2: an error is not new")
		}
	}
}

// asModel plays code by the model and by machines: run through, collected, saved and loaded between. All tell the same.
func asModel(t testing.TB, p code.Program, table *types.Table, depth int, pieces ...int) story {
	t.Helper()
	must := played(p, table, depth, pieces...)
	for i, do := range []between{counted(t), nothingBetween, kept(t, p, table)} {
		if got := ran(t, p, table, depth, do, pieces...); !got.same(must) {
			t.Fatalf("P16: way %d, depth %d, fuels %v: %s\n%s", i, depth, pieces, difference(got.String(), must.String()), brief(written(p)))
		}
	}
	return must
}

// asWalk plays a program's text by walk, and its code in pieces of fuel: run through, collected, saved and loaded between.
func asWalk(t testing.TB, s string, fuel, depth int, pieces ...int) story {
	t.Helper()
	p, table := compiled(t, s)
	n := parsed(t, s)
	must := story{runs: make([]api.Outcome, 1)}
	must.runs[0], must.err = walk.Watch(n, fuel, depth, func(e api.Event) { must.events = append(must.events, e) })
	for i, do := range []between{nothingBetween, counted(t), kept(t, p, table)} {
		got := ran(t, p, table, depth, do, piecesUpTo(fuel, pieces)...)
		got.runs, got.counts = got.runs[len(got.runs)-1:], nil
		if !got.same(must) {
			t.Fatalf("P16.6: way %d, fuel %d, depth %d, pieces %v: %s\n%s", i, fuel, depth, pieces, difference(got.String(), must.String()), brief(s))
		}
	}
	return must
}

// piecesUpTo is these pieces, one behind another, again and again, up to a fuel; of none it is one.
func piecesUpTo(fuel int, pieces []int) []int {
	var out []int
	for fuel > 0 && slices.ContainsFunc(pieces, func(n int) bool { return n > 0 }) {
		for _, piece := range pieces {
			piece = min(piece, fuel)
			out = append(out, piece)
			fuel -= piece
		}
	}
	return append(out, fuel)
}

func textError(s string, fuel, depth int) string {
	_, err := walk.Text(s, fuel, depth)
	return told(err)
}
