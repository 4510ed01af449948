package trace_test

import (
	"fmt"
	"math"
	"slices"
	"strings"
	"testing"

	"guise/api"
	"guise/trace"
)

// wantLines holds the counts against what must be, and against the second reading.
func wantLines(t testing.TB, s string, l []api.Event, must string) {
	t.Helper()
	is(t, fmt.Sprintf("R3: %q", brief(s)), fmt.Sprint(trace.Lines(s, l)), must)
	is(t, fmt.Sprintf("R3: the second reading of %q", brief(s)), fmt.Sprint(linesOf(s, l)), must)
}

func TestLines(t *testing.T) {
	for _, c := range []struct{ s, l, must string }{
		{"", "", "[0]"},
		{"", "1@0", "[1]"},
		{"", "1@0 1@1 1@-1 1@0", "[2]"},
		{"a", "1@0 1@1 1@2", "[2]"},
		{"\n", "1@0", "[1 0]"},
		{"\n", "1@1", "[0 1]"},
		{"\n", "1@2", "[0 0]"},
		{"\n\n\n", "1@0 1@1 1@1 1@2 1@3 1@4", "[1 2 1 1]"},
		{"a\nb", "1@0 1@1 1@2 1@3 1@4 1@-1", "[2 2]"},
		{"a\nb\n", "1@0 1@1 1@2 1@3 1@4 1@5", "[2 2 1]"},
		{"ab\n\ncd", "1@0 1@1 1@2 1@3 1@4 1@5 1@6", "[3 1 3]"},
		{"\na", "1@0 1@1 1@2", "[1 2]"},
		{"a\r\nb", "1@1 1@2 1@3", "[2 1]"},
		{"a\rb\vc\fd\x00\xff\xc2\x85", "1@1 1@3 1@9", "[3]"},
		{"a\nb", "0@0 2@0 3@0 4@0 5@0 6@0 7@0 8@0 -1@0 1@2", "[0 1]"},
		{"a\nb", "1@0:text 1@0 1@0:other", "[3 0]"},
	} {
		wantLines(t, c.s, events(c.l), c.must)
	}
	far := []api.Event{{Kind: 1, At: math.MinInt}, {Kind: 1, At: math.MaxInt}, {Kind: 1, At: 1 << 32}, {Kind: 1 + 1<<32}, {Kind: math.MinInt}, {Kind: 1, At: -1 << 32}}
	wantLines(t, "a\nb", far, "[0 0]")
	wantLines(t, "a\nb", append(far, api.Event{Kind: 1, At: 3}), "[0 1]")
}

// Texts of the greatest length, and of one byte more.
func TestLinesOfLongTexts(t *testing.T) {
	l := []api.Event{{Kind: 1}, {Kind: 1, At: 59999}, {Kind: 1, At: 60000}, {Kind: 1, At: 60001}}
	wantLines(t, strings.Repeat(" ", 60000), l, "[3]")
	wantLines(t, strings.Repeat(" ", 59999)+"\n", l, "[2 1]")
	wantLines(t, "\n"+strings.Repeat(" ", 59999), l, "[1 2]")
	for _, s := range []string{strings.Repeat(" ", 60001), strings.Repeat("\n", 60001), strings.Repeat("a\n", 100000)} {
		if got := trace.Lines(s, l); len(got) != 0 {
			t.Errorf("R3: %d lines of %d bytes", len(got), len(s))
		}
	}
	feeds := strings.Repeat("\n", 60000)
	var each []api.Event
	for at := range 60001 {
		each = append(each, api.Event{Kind: 1, At: at})
	}
	got := trace.Lines(feeds, each)
	if len(got) != 60001 || slices.Min(got) != 1 || slices.Max(got) != 1 {
		t.Errorf("R3: %d lines of line feeds", len(got))
	}
}

// All of a long list counts, also behind the 200000th event.
func TestLinesOfLongLists(t *testing.T) {
	l := repeated(most, events("1@0 1@2 2@0")...)
	is(t, "R3", fmt.Sprint(trace.Lines("a\nb", l)), "[200000 200000]")
}

// Of runs: which lines were come to, how often.
func TestLinesOfRuns(t *testing.T) {
	s := "var a = 1\nvar b = 2\n\nfunc main() {\n\tfor i in 3 {\n\t\tf(i)\n\t}\n\tif false {\n\t\tf(9)\n\t} else if true { f(1) }\n}\nfunc f(n) {\n\tdefer print(n); x := n\n}\n"
	must := "[1 1 0 0 1 3 0 1 0 2 0 0 8 0 0]"
	wantLines(t, s, ran(t, s, 1000, 9), must)
	wantLines(t, s, ran(t, s, 2, 9), "[1 1 0 0 0 0 0 0 0 0 0 0 0 0 0]")
}
