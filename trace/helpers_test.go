package trace_test

import (
	"errors"
	"fmt"
	"math/rand/v2"
	"strings"
	"testing"

	"guise/api"
	"guise/code"
	"guise/compile"
	"guise/machine"
	"guise/parse"
	"guise/trace"
	"guise/types"
	"guise/walk"
)

// most is how many events of a run there are at most, and how many Calls reads.
const most = 200000

// told writes an error: a Wrong's code, place and name; "ok", if it is nil itself.
func told(err error) string {
	switch e := err.(type) {
	case nil:
		return "ok"
	case *api.Wrong:
		if e == nil || !errors.Is(err, e.Code) {
			return "an error without its code"
		}
		return fmt.Sprintf("%d at %d %q", int(e.Code), e.At, e.Name)
	}
	return "an error of another type: " + err.Error()
}

func brief(s string) string {
	if len(s) > 1500 {
		return s[:1500] + fmt.Sprintf(".. (%d bytes)", len(s))
	}
	return s
}

func is(t testing.TB, what, got, must string) {
	t.Helper()
	if got != must {
		t.Errorf("%s: %s\nmust be %s", what, brief(got), brief(must))
	}
}

func parsed(t testing.TB, s string) api.Node {
	t.Helper()
	n, err := parse.Program(s)
	if err != nil {
		t.Fatalf("%v: %s", err, brief(s))
	}
	return n
}

// compiled is the code of a tree, and its table.
func compiled(t testing.TB, n api.Node) (code.Program, *types.Table) {
	t.Helper()
	p, err := compile.Program(n)
	if err != nil {
		t.Fatal(err)
	}
	table, err := types.Make(n)
	if err != nil {
		t.Fatal(err)
	}
	return p, table
}

// walked is what Walk tells of a tree that it takes.
func walked(t testing.TB, n api.Node, fuel, depth int) []api.Event {
	t.Helper()
	l, err := trace.Walk(n, fuel, depth)
	if err != nil {
		t.Fatalf("R1: Walk refuses: %s", told(err))
	}
	return l
}

// played is what Machine tells of code that it takes.
func played(t testing.TB, p code.Program, table *types.Table, fuel, depth int) []api.Event {
	t.Helper()
	l, err := trace.Machine(p, table, fuel, depth)
	if err != nil {
		t.Fatalf("R1: Machine refuses: %s", told(err))
	}
	return l
}

// ran is the events of a program's text, which both ways must tell alike.
func ran(t testing.TB, s string, fuel, depth int) []api.Event {
	t.Helper()
	n := parsed(t, s)
	a := walked(t, n, fuel, depth)
	p, table := compiled(t, n)
	b := played(t, p, table, fuel, depth)
	if i := trace.Differ(a, b); i != -1 {
		t.Fatalf("R6: event %d is another one, fuel %d, depth %d:\n%s\nby the machine\n%s\n%s", i, fuel, depth, texts(from(a, i)), texts(from(b, i)), brief(s))
	}
	return a
}

// from is some of a list's events, from one on.
func from(l []api.Event, i int) []api.Event { return l[min(i, len(l)):min(i+3, len(l))] }

// outcome is how a program ends.
func outcome(t testing.TB, s string, fuel, depth int) api.Outcome {
	t.Helper()
	o, _ := walk.Text(s, fuel, depth)
	return o
}

// watchedWalk is what walk itself tells, all of it.
func watchedWalk(n api.Node, fuel, depth int) []api.Event {
	var l []api.Event
	walk.Watch(n, fuel, depth, func(e api.Event) { l = append(l, e) })
	return l
}

// watchedMachine is what a machine itself tells, all of it.
func watchedMachine(t testing.TB, p code.Program, table *types.Table, fuel, depth int) []api.Event {
	t.Helper()
	m, err := machine.New(p, table, depth)
	if err != nil {
		t.Fatal(err)
	}
	var l []api.Event
	m.Watch(func(e api.Event) { l = append(l, e) })
	m.Run(fuel)
	return l
}

// text is an event: its kind, its place, its text.
func text(e api.Event) string {
	out := fmt.Sprint(e.Kind, "@", e.At)
	if e.Text != "" {
		out += ":" + e.Text
	}
	return out
}

func texts(l []api.Event) string {
	var out []string
	for _, e := range l {
		out = append(out, text(e))
	}
	return strings.Join(out, " ")
}

func kinds(l []api.Event) string {
	var out []string
	for _, e := range l {
		out = append(out, fmt.Sprint(e.Kind))
	}
	return strings.Join(out, " ")
}

// events reads what text writes, with blanks between.
func events(s string) []api.Event {
	var out []api.Event
	for _, word := range strings.Fields(s) {
		var e api.Event
		head, text, _ := strings.Cut(word, ":")
		if _, err := fmt.Sscanf(head, "%d@%d", &e.Kind, &e.At); err != nil {
			panic(err)
		}
		e.Text = text
		out = append(out, e)
	}
	return out
}

func repeated(n int, l ...api.Event) []api.Event {
	out := make([]api.Event, 0, n*len(l))
	for range n {
		out = append(out, l...)
	}
	return out
}

func dice(seed uint64) *rand.Rand { return rand.New(rand.NewPCG(seed, 17)) }

func oneOf[T any](r *rand.Rand, all ...T) T { return all[r.IntN(len(all))] }
