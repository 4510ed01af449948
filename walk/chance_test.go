package walk_test

import (
	"errors"
	"fmt"
	"slices"
	"strings"
	"testing"

	"guise/api"
	"guise/names"
	"guise/parse"
	"guise/types"
	"guise/walk"
)

// mayBe: the program of a text may be played.
func mayBe(t testing.TB, s string) (api.Node, bool) {
	t.Helper()
	n, err := parse.Program(s)
	if err != nil && (errors.Is(err, api.ErrDeep) || errors.Is(err, api.ErrMany)) {
		return n, false
	}
	if err != nil {
		t.Fatalf("no program: %v\n%s", err, s)
	}
	if _, err := names.Resolve(n); err != nil {
		return n, false
	}
	_, err = types.Make(n)
	return n, err == nil
}

// asTheModel plays a program, and holds all that is told of it against the model.
func asTheModel(t testing.TB, s string, n api.Node, fuel, depth int) []api.Event {
	t.Helper()
	var events []api.Event
	o, err := walk.Watch(n, fuel, depth, func(e api.Event) { events = append(events, e) })
	mo, merr, mevents := played(n, fuel, depth)
	if told(o, err) != told(mo, merr) || o.Steps != mo.Steps {
		t.Fatalf("W1: fuel %d, depth %d:\n%s\n%s (%d steps); must be\n%s (%d steps)", fuel, depth, s, brief(told(o, err)), o.Steps, brief(told(mo, merr)), mo.Steps)
	}
	if p, is := err.(*api.Panicked); is && p.Shown != merr.(*api.Panicked).Shown {
		t.Fatalf("W1: %s\nShown %s; must be %s", s, brief(p.Shown), brief(merr.(*api.Panicked).Shown))
	}
	if !slices.Equal(events, mevents) {
		t.Fatalf("W2: fuel %d, depth %d: %s\n%s; must be\n%s", fuel, depth, s, brief(eventTexts(s, events)), brief(eventTexts(s, mevents)))
	}
	return events
}

func TestByChance(t *testing.T) {
	g := growing(dice(1))
	count := map[string]int{}
	for range 700 {
		s := g.program()
		n, may := mayBe(t, s)
		if !may {
			continue
		}
		for _, e := range asTheModel(t, s, n, 600, 12) {
			count[fmt.Sprint("event ", e.Kind)]++
			if word, is := strings.CutPrefix(e.Text, `&fault{word: "`); is && e.Kind == 5 {
				count[word[:strings.IndexByte(word, '"')]]++
			}
		}
		fuel, depth := g.IntN(60), 1+g.IntN(3)
		asTheModel(t, s, n, fuel, depth)
		o, _ := walk.Run(n, fuel, depth)
		count[endNames[o.End]]++
	}
	for _, some := range []string{"event 1", "event 2", "event 3", "event 4", "event 5", "event 6", "event 7", "conversion", "key", "nil", "range", "operand", "missing", "arguments", "bool", "count", "place", "compare", "done", "spent", "overflow", "panic"} {
		if count[some] < 5 {
			t.Errorf("%s came %d times by chance", some, count[some])
		}
	}
}

func FuzzWalk(f *testing.F) {
	for seed := range uint64(20) {
		f.Add(seed, uint16(300), uint8(10))
	}
	f.Fuzz(func(t *testing.T, seed uint64, fuel uint16, depth uint8) {
		s := growing(dice(seed)).program()
		if n, may := mayBe(t, s); may {
			asTheModel(t, s, n, int(fuel%2000), 1+int(depth%40))
		}
	})
}

// Any text is a program that is played, or is refused.
func FuzzText(f *testing.F) {
	for _, s := range []string{"func main() { print(1) }", "func main() { for { } }", kinds + "func main() { f() }", methods + "func main() { W{}.get() }"} {
		f.Add(s)
	}
	f.Fuzz(func(t *testing.T, s string) {
		n, err := parse.Program(s)
		o, rerr := walk.Text(s, 300, 10)
		if err != nil {
			if toldWrong(rerr) != toldWrong(err) {
				t.Errorf("W3: %q: %v; must be %v", s, rerr, err)
			}
			return
		}
		if _, may := mayBe(t, s); !may {
			if _, wrong := rerr.(*api.Wrong); !wrong || o.End != 0 {
				t.Errorf("W1: %q: %v, %v", s, o, rerr)
			}
			return
		}
		if !strings.Contains(s, "pointer") {
			asTheModel(t, s, n, 300, 10)
		}
	})
}
