package trace_test

import (
	"errors"
	"fmt"
	"math/rand/v2"
	"slices"
	"strings"
	"testing"

	"guise/api"
	"guise/code"
	"guise/compile"
	"guise/parse"
	"guise/peep"
	"guise/trace"
	"guise/types"
	"guise/walk"
)

var endNames = []string{"none", "done", "panic", "spent", "overflow", "full"}

// grownProgram is a program by chance that may be.
func grownProgram(t testing.TB, r *rand.Rand) (string, api.Node) {
	t.Helper()
	s := (&grower{Rand: r}).program()
	n := parsed(t, s)
	var w *api.Wrong
	if _, err := walk.Run(n, 0, 1); errors.As(err, &w) {
		t.Fatalf("a program that may not be has grown: %s\n%s", told(err), s)
	}
	return s, n
}

// asPromised holds all that is told of a run against walk, machine, and the second readings.
func asPromised(t testing.TB, s string, n api.Node, p code.Program, table *types.Table, fuel, depth int) []api.Event {
	t.Helper()
	l := walked(t, n, fuel, depth)
	for what, other := range map[string][]api.Event{
		"R6: by the machine":           played(t, p, table, fuel, depth),
		"R1: as walk tells it":         watchedWalk(n, fuel, depth),
		"R1: as the machine tells it":  watchedMachine(t, p, table, fuel, depth),
		"R1: once more":                walked(t, n, fuel, depth),
		"R1: by the machine once more": played(t, p, table, fuel, depth),
	} {
		if i := trace.Differ(l, other); i != partsAt(l, other) || i != -1 && i != most {
			t.Fatalf("%s: event %d is another one, fuel %d, depth %d:\n%s\n%s\n%s", what, i, fuel, depth, texts(from(l, i)), texts(from(other, i)), s)
		}
	}
	is(t, "R3", fmt.Sprint(trace.Lines(s, l)), fmt.Sprint(linesOf(s, l)))
	is(t, "R4", trace.Calls(l), callsText(l))
	return l
}

// depths are the numbers at the lines' beginnings.
func depths(calls string) []int {
	var out []int
	for line := range strings.Lines(calls) {
		var n int
		fmt.Sscanf(line, "%d ", &n)
		out = append(out, n)
	}
	return out
}

// wantTree: what R6 says of the calls of a run that is Done, and has no panic; and of all runs.
func wantTree(t testing.TB, s string, l []api.Event, o api.Outcome) {
	t.Helper()
	calls := trace.Calls(l)
	deep := depths(calls)
	if strings.Count(kinds(l), "2") != len(deep) || strings.Count(calls, "\n") != len(deep) {
		t.Errorf("R4: %d lines", len(deep))
	}
	for i, n := range deep {
		if i == 0 && n != 1 || i > 0 && n > deep[i-1]+1 || n < 1 {
			t.Errorf("R6: the depths are %v\n%s", deep, s)
		}
	}
	panics := slices.ContainsFunc(l, func(e api.Event) bool { return e.Kind == 5 })
	if o.End == api.Done && !panics && strings.Contains(calls, "!") {
		t.Errorf("R6: a call is not ended: %s\n%s", calls, s)
	}
}

// Programs by chance, with all fuels and depths by chance: walked, and by the machine over compile's code, and over that which was made shorter.
func TestProgramsByChance(t *testing.T) {
	t.Parallel()
	var parts [6]map[string]int
	t.Run("parts", func(t *testing.T) {
		for part := range parts {
			parts[part] = map[string]int{}
			t.Run(fmt.Sprint(part), func(t *testing.T) {
				t.Parallel()
				r := dice(uint64(part))
				for range 100 {
					traceByChance(t, r, parts[part])
				}
			})
		}
	})
	seen := map[string]int{}
	for _, part := range parts {
		for what, n := range part {
			seen[what] += n
		}
	}
	for _, some := range []string{"done", "panic", "spent", "overflow", "full", "event 1", "event 2", "event 3", "event 4", "event 5", "event 6", "event 7",
		"done without a panic", "done, and left", "of main", "of f0", "of f2", "of func", "of K.num", "of T.get", "of T.set", "of W.low", "of P.num", "of fault.Error"} {
		if seen[some] < 10 {
			t.Errorf("%s came %d times by chance", some, seen[some])
		}
	}
}

func traceByChance(t testing.TB, r *rand.Rand, seen map[string]int) {
	t.Helper()
	s, n := grownProgram(t, r)
	p, table := compiled(t, n)
	whole := asPromised(t, s, n, p, table, 3000, 30)
	o, _ := walk.Run(n, 3000, 30)
	wantTree(t, s, whole, o)
	tally(seen, whole, o)
	for range 4 {
		fuel, depth := r.IntN(o.Steps+2), 1+r.IntN(6)
		part := asPromised(t, s, n, p, table, fuel, depth)
		if i := trace.Differ(part, whole); i != -1 && i != len(part) {
			t.Errorf("R1: with the fuel %d and the depth %d it does not begin alike: %s; %s\n%s", fuel, depth, texts(from(part, i)), texts(from(whole, i)), s)
		}
		end, _ := walk.Run(n, fuel, depth)
		wantTree(t, s, part, end)
		tally(seen, part, end)
	}
	shorter, err := peep.Program(p)
	if err != nil {
		t.Fatal(err)
	}
	if i := trace.Differ(whole, played(t, shorter, table, 3000, 30)); i != -1 {
		t.Errorf("T2: event %d is another one\n%s", i, s)
	}
}

func tally(seen map[string]int, l []api.Event, o api.Outcome) {
	seen[endNames[o.End]]++
	panics := 0
	for _, e := range l {
		seen[fmt.Sprint("event ", e.Kind)]++
		if e.Kind == 2 {
			seen["of "+e.Text]++
		}
		if e.Kind == 5 {
			panics++
		}
	}
	left := strings.Contains(trace.Calls(l), "!")
	if o.End == api.Done && panics == 0 {
		seen["done without a panic"]++
	}
	if o.End == api.Done && left {
		seen["done, and left"]++
	}
}

// grownList is events by chance, of few Kinds, places and texts, so that some are alike.
func grownList(r *rand.Rand, n int) []api.Event {
	var out []api.Event
	for range n {
		e := api.Event{Kind: oneOf(r, 2, 2, 2, 3, 3, 3, 1, 1, r.IntN(9)-1), At: r.IntN(3), Text: oneOf(r, "f", "g", "", "h\n")}
		if e.Kind == 1 || r.IntN(12) == 0 {
			e.At = r.IntN(40) - 5
		}
		if r.IntN(30) == 0 {
			e.Text = strings.Repeat(oneOf(r, "x", "\x00", "\xff"), 98+r.IntN(5))
		}
		out = append(out, e)
	}
	return out
}

// asRead holds what is told of lists against the second readings.
func asRead(t testing.TB, s string, a, b []api.Event) {
	t.Helper()
	is(t, "R4: "+texts(a), trace.Calls(a), callsText(a))
	is(t, fmt.Sprintf("R3: %q %s", s, texts(a)), fmt.Sprint(trace.Lines(s, a)), fmt.Sprint(linesOf(s, a)))
	wantDiffer(t, a, b, partsAt(a, b))
	sums := trace.Lines(s, slices.Concat(a, b))
	for i, n := range trace.Lines(s, b) {
		sums[i] -= n
	}
	is(t, fmt.Sprintf("R6: sums of %q", s), fmt.Sprint(sums), fmt.Sprint(trace.Lines(s, a)))
	if i := trace.Differ(a, b); i >= 0 && trace.Differ(a[:i], b[:i]) != -1 {
		t.Errorf("R6: up to where %s and %s part they are not the same", texts(a), texts(b))
	}
}

func grownText(r *rand.Rand) string {
	var out []byte
	for range r.IntN(30) {
		out = append(out, oneOf[byte](r, 'a', '\n', '\r', ' ', 0))
	}
	return string(out)
}

func TestListsByChance(t *testing.T) {
	t.Parallel()
	r := dice(50)
	ended, left := 0, 0
	for range 4000 {
		a := grownList(r, r.IntN(40))
		b := slices.Clone(a)
		if len(b) > 0 && r.IntN(2) == 0 {
			b[r.IntN(len(b))] = grownList(r, 1)[0]
		}
		b = b[:len(b)-r.IntN(min(3, len(b)+1))]
		asRead(t, grownText(r), a, append(b, grownList(r, r.IntN(3))...))
		for _, c := range callsOf(a) {
			if c.ended {
				ended++
			} else if !c.open {
				left++
			}
		}
	}
	if ended < 1000 || left < 1000 {
		t.Errorf("%d calls were ended by chance, %d left", ended, left)
	}
}

// Deep ones, in which many of the same mark are open.
func TestDeepListsByChance(t *testing.T) {
	t.Parallel()
	r := dice(51)
	for range 40 {
		var l []api.Event
		for range 400 {
			l = append(l, api.Event{Kind: oneOf(r, 2, 2, 2, 2, 3), At: r.IntN(30), Text: "f"})
			if r.IntN(8) == 0 {
				l = append(l, grownList(r, 3)...)
			}
		}
		asRead(t, grownText(r), l, l[:r.IntN(len(l))])
	}
}

func FuzzProgram(f *testing.F) {
	for seed := range uint64(20) {
		f.Add(seed, uint16(1000), uint8(9))
	}
	f.Fuzz(func(t *testing.T, seed uint64, fuel uint16, depth uint8) {
		r := dice(seed)
		s, n := grownProgram(t, r)
		p, table := compiled(t, n)
		l := asPromised(t, s, n, p, table, int(fuel), 1+int(depth))
		o, _ := walk.Run(n, int(fuel), 1+int(depth))
		wantTree(t, s, l, o)
	})
}

// Any text: refused as walk refuses it, or played alike in both ways.
func FuzzText(f *testing.F) {
	for seed := range uint64(10) {
		s := (&grower{Rand: dice(seed)}).program()
		f.Add(s, 100, 5)
	}
	f.Add("func main() { }", -1, 0)
	f.Fuzz(func(t *testing.T, s string, fuel, depth int) { wantAny(t, s, fuel, depth) })
}

// wantAny: a text's program is refused for what walk and compile say, or is played alike.
func wantAny(t testing.TB, s string, fuel, depth int) {
	t.Helper()
	n, err := parse.Program(s)
	if err != nil {
		return
	}
	var w *api.Wrong
	if _, err := walk.Run(n, fuel, depth); errors.As(err, &w) {
		wantNoWalk(t, n, fuel, depth, told(err))
		if p, err := compile.Program(n); err == nil {
			_, table := compiled(t, n)
			wantNoMachine(t, p, table, fuel, depth, noArg)
		}
		return
	}
	if _, err := compile.Program(n); errors.Is(err, api.ErrMany) {
		return
	}
	p, table := compiled(t, n)
	asPromised(t, s, n, p, table, fuel, depth)
}

func FuzzLists(f *testing.F) {
	for seed := range uint64(20) {
		f.Add(seed, "a\nb\n")
	}
	f.Fuzz(func(t *testing.T, seed uint64, s string) {
		r := dice(seed)
		a := grownList(r, r.IntN(100))
		if len(s) <= api.MaxSource {
			asRead(t, s, a, slices.Concat(a[:r.IntN(len(a)+1)], grownList(r, r.IntN(3))))
		}
	})
}
