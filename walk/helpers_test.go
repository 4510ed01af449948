package walk_test

import (
	"errors"
	"fmt"
	"math/rand/v2"
	"strconv"
	"strings"
	"testing"

	"guise/api"
	"guise/parse"
	"guise/walk"
)

const (
	muchFuel  = 100000
	muchDepth = 100
)

var endNames = []string{"none", "done", "panic", "spent", "overflow", "full"}

// told is an outcome in one line: the end, the lines, and by which panic it ended.
func told(o api.Outcome, err error) string {
	s := endNames[o.End] + ": " + strings.Join(o.Out, "|")
	if err == nil {
		return s
	}
	return s + " " + toldError(err)
}

// toldError is an error in one line.
func toldError(err error) string {
	var w *api.Wrong
	if errors.As(err, &w) {
		return fmt.Sprintf("wrong %d at %d %q", int(w.Code), w.At, w.Name)
	}
	p, is := err.(*api.Panicked)
	if !is {
		return "an error of another type"
	}
	if f, is := p.Cause.(*api.Fault); is {
		return "<" + f.Word + "|" + f.More + ">"
	}
	if p.Cause != nil {
		return "a cause of another type"
	}
	return "{" + p.Shown + "}"
}

// want plays a text, and holds what is told of it against what must be; and all that it does against the model.
func want(t *testing.T, promise, s, must string) {
	t.Helper()
	wantAlone(t, promise, s, must)
	if n, may := mayBe(t, s); may {
		asTheModel(t, s, n, muchFuel, muchDepth)
	}
}

// wantAlone is for what the model does not know.
func wantAlone(t *testing.T, promise, s, must string) {
	t.Helper()
	if got := told(walk.Text(s, muchFuel, muchDepth)); got != must {
		t.Errorf("%s: %s\n%s; must be\n%s", promise, brief(s), brief(got), brief(must))
	}
}

// wantMain plays main of these statements, behind what is declared.
func wantMain(t *testing.T, promise, declared, s, must string) {
	t.Helper()
	want(t, promise, declared+"\nfunc main() { "+s+" }\n", must)
}

// row is a main, and what is told of it.
type row struct{ s, must string }

func wantRows(t *testing.T, promise, declared string, rows []row) {
	t.Helper()
	for _, r := range rows {
		wantMain(t, promise, declared, r.s, r.must)
	}
}

func brief(s string) string {
	if len(s) > 1500 {
		return s[:1500] + fmt.Sprintf(".. (%d bytes)", len(s))
	}
	return s
}

func parsed(t testing.TB, s string) api.Node {
	t.Helper()
	n, err := parse.Program(s)
	if err != nil {
		t.Fatalf("%s: %v", s, err)
	}
	return n
}

// watched is the events of a run, one behind the other.
func watched(t testing.TB, s string, fuel, depth int) ([]api.Event, api.Outcome, error) {
	t.Helper()
	var events []api.Event
	o, err := walk.Watch(parsed(t, s), fuel, depth, func(e api.Event) { events = append(events, e) })
	return events, o, err
}

// eventText is an event: its kind, its text, and what stands at its place in the program, up to a blank or a bracket.
func eventText(s string, e api.Event) string {
	out := strconv.Itoa(e.Kind)
	if e.Text != "" {
		out += ":" + e.Text
	}
	return out + "@" + strconv.Itoa(e.At)
}

func eventTexts(s string, events []api.Event) string {
	var out []string
	for _, e := range events {
		out = append(out, eventText(s, e))
	}
	return strings.Join(out, " ")
}

func dice(seed uint64) *rand.Rand { return rand.New(rand.NewPCG(seed, 12)) }

func oneOf[T any](r *rand.Rand, all ...T) T { return all[r.IntN(len(all))] }
