package image_test

import (
	"errors"
	"fmt"
	"math/rand/v2"
	"strings"
	"testing"

	"guise/api"
	"guise/code"
	"guise/compile"
	"guise/image"
	"guise/machine"
	"guise/parse"
	"guise/types"
)

var endNames = []string{"none", "done", "panic", "spent", "overflow", "full"}

// told writes an error: a Wrong's code, place and name; a panic's value and cause; "ok", if it is nil itself.
func told(err error) string {
	var f *api.Fault
	switch e := err.(type) {
	case nil:
		return "ok"
	case *api.Wrong:
		if e == nil || !errors.Is(err, e.Code) {
			return "an error without its code"
		}
		return strings.TrimSpace(fmt.Sprint(int(e.Code), " ", e.At, " ", e.Name))
	case *api.Panicked:
		if errors.As(err, &f) {
			return e.Shown + " of " + f.Word + " " + f.More
		}
		return e.Shown
	}
	return "an error of another type"
}

func brief(s string) string {
	if len(s) > 1500 {
		return s[:1500] + fmt.Sprintf(".. (%d bytes)", len(s))
	}
	return s
}

func is(t testing.TB, what, got, must string) {
	t.Helper()
	if got != must {
		t.Errorf("%s: %s\nmust be %s", what, brief(got), brief(must))
	}
}

// ended writes what a Run answered: how it ended, the steps, the lines, and the panic, if there was one.
func ended(o api.Outcome, err error) string {
	out := fmt.Sprint(endNames[o.End], " ", o.Steps)
	for _, line := range o.Out {
		out += " | " + line
	}
	if err != nil {
		out += " ! " + told(err)
	}
	return out
}

// compiled is the code of a program's text, and its table.
func compiled(t testing.TB, s string) (code.Program, *types.Table) {
	t.Helper()
	p, err := compile.Text(s)
	if err != nil {
		t.Fatalf("%v: %s", err, brief(s))
	}
	n, err := parse.Program(s)
	if err != nil {
		t.Fatalf("%v: %s", err, brief(s))
	}
	table, err := types.Make(n)
	if err != nil {
		t.Fatalf("%v: %s", err, brief(s))
	}
	return p, table
}

// made is a machine of a program's text, that has run for some pieces of fuel.
func made(t testing.TB, s string, depth int, pieces ...int) *machine.Machine {
	t.Helper()
	p, table := compiled(t, s)
	m, err := machine.New(p, table, depth)
	if err != nil {
		t.Fatalf("%v: %s", err, brief(s))
	}
	for _, fuel := range pieces {
		m.Run(fuel)
	}
	return m
}

// ownBytes is what a machine says of itself.
func ownBytes(t testing.TB, m *machine.Machine) string {
	t.Helper()
	b, err := m.Save()
	if err != nil {
		t.Fatalf("P16.4: %s", told(err))
	}
	return b
}

// saved is what Save says, which must be no error.
func saved(t testing.TB, m *machine.Machine, s string) string {
	t.Helper()
	b, err := image.Save(m, s)
	if err != nil || b == "" {
		t.Fatalf("P19.1: Save: %s, %d bytes: %s", told(err), len(b), brief(s))
	}
	return b
}

// loaded is the machine of an image of that source, which must be taken.
func loaded(t testing.TB, b, s string) *machine.Machine {
	t.Helper()
	if source, err := image.Check(b); err != nil || source != s {
		t.Fatalf("P19.2: Check: %s, %q; must be %q", told(err), brief(source), brief(s))
	}
	m, source, err := image.Load(b)
	if err != nil || m == nil || source != s {
		t.Fatalf("P19.3: Load: %s, %q, a machine: %v; must be %q", told(err), brief(source), m != nil, brief(s))
	}
	return m
}

// wantNoImage: Check and Load refuse bytes at a place, by an error that is new each time, and answer nothing else.
func wantNoImage(t testing.TB, what, b string, at int) {
	t.Helper()
	must := fmt.Sprint("190 ", at)
	source, first := image.Check(b)
	if told(first) != must || source != "" {
		t.Fatalf("P19.2: %s: Check: %s, %q; must be %s", what, told(first), brief(source), must)
	}
	m, source, err := image.Load(b)
	if told(err) != must || m != nil || source != "" {
		t.Fatalf("P19.3: %s: Load: %s, %q, a machine: %v; must be %s", what, told(err), brief(source), m != nil, must)
	}
	if err == first {
		t.Fatalf("P2: %s: an error is not new", what)
	}
}

// wantNotSaved: Save refuses, by an error that is new each time, and gives no bytes.
func wantNotSaved(t testing.TB, what string, m *machine.Machine, s, must string) {
	t.Helper()
	b, err := image.Save(m, s)
	_, again := image.Save(m, s)
	if told(err) != must || b != "" || err == again {
		t.Errorf("P19.1: %s: Save: %s, %d bytes, new: %v; must be %s", what, told(err), len(b), err != again, must)
	}
}

func dice(seed uint64) *rand.Rand { return rand.New(rand.NewPCG(seed, 19)) }

func oneOf[T any](r *rand.Rand, all ...T) T { return all[r.IntN(len(all))] }
