package trace_test

import (
	"fmt"
	"math"
	"slices"
	"testing"

	"guise/api"
	"guise/trace"
)

// wantDiffer asks in both orders, and each list beside itself.
func wantDiffer(t testing.TB, a, b []api.Event, must int) {
	t.Helper()
	got := []int{trace.Differ(a, b), trace.Differ(b, a), trace.Differ(a, a), trace.Differ(b, slices.Clone(b))}
	if fmt.Sprint(got) != fmt.Sprint([]int{must, must, -1, -1}) {
		t.Errorf("R2: %s and %s: %v; must be %d, %d, -1, -1", brief(texts(from(a, must))), brief(texts(from(b, must))), got, must, must)
	}
}

func TestDiffer(t *testing.T) {
	for _, c := range []struct {
		a, b string
		must int
	}{
		{"", "", -1},
		{"", "1@5", 0},
		{"", "0@0", 0},
		{"1@5", "1@5", -1},
		{"1@5 1@9", "1@5", 1},
		{"1@5", "1@9", 0},
		{"1@5", "2@5", 0},
		{"1@5:a", "1@5:b", 0},
		{"1@5:a", "1@5", 0},
		{"1@5:a", "1@5:aa", 0},
		{"2@0:main 1@5 3@0:main", "2@0:main 1@5 3@0:main", -1},
		{"2@0:main 1@5 3@0:main", "2@0:main 1@5 3@1:main", 2},
		{"2@0:main 1@5 3@0:main", "2@0:main 1@5 4@0:main", 2},
		{"2@0:main 1@5 3@0:main", "2@0:main 1@5 3@0:Main", 2},
		{"2@0:main 1@5 3@0:main", "2@0:main 1@6 3@0:main", 1},
		{"2@0:main 1@5 3@0:main", "2@0:main 1@5", 2},
		{"1@1 1@1", "1@1 1@1 1@1", 2},
		{"1@1 2@2", "2@2 1@1", 0},
		{"0@0", "-1@0", 0},
	} {
		wantDiffer(t, events(c.a), events(c.b), c.must)
	}
	wantDiffer(t, []api.Event{}, nil, -1)
	wantDiffer(t, []api.Event{{At: math.MinInt}}, []api.Event{{At: math.MaxInt}}, 0)
	wantDiffer(t, []api.Event{{At: 1}}, []api.Event{{At: 1 + 1<<32}}, 0)
	wantDiffer(t, []api.Event{{Kind: 1}}, []api.Event{{Kind: 1 + 1<<32}}, 0)
	wantDiffer(t, []api.Event{{Text: "a\x00"}}, []api.Event{{Text: "a"}}, 0)
	wantDiffer(t, []api.Event{{Text: "\xff"}}, []api.Event{{Text: "\xfe"}}, 0)
}

// All of a long list is looked at, also behind the 200000th event.
func TestDifferOfLongLists(t *testing.T) {
	a := repeated(most+50000, api.Event{Kind: 7, At: 9, Text: "line"})
	wantDiffer(t, a, slices.Clone(a), -1)
	wantDiffer(t, a, a[:most], most)
	wantDiffer(t, a, a[:len(a)-1], len(a)-1)
	for _, at := range []int{0, 1, most - 1, most, len(a) - 1} {
		for _, other := range []api.Event{{Kind: 6, At: 9, Text: "line"}, {Kind: 7, At: 8, Text: "line"}, {Kind: 7, At: 9, Text: "lime"}} {
			b := slices.Clone(a)
			b[at] = other
			wantDiffer(t, a, b, at)
		}
	}
}
