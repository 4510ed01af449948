package compile_test

import (
	"strings"
	"testing"

	"guise/api"
)

// short is how a run ended, its lines, and its panic.
func (s story) short() string {
	out := endNames[s.End] + ": " + strings.Join(s.Out, "|")
	p, is := s.err.(*api.Panicked)
	if !is {
		return out
	}
	if f, is := p.Cause.(*api.Fault); is {
		return out + "<" + f.Word + "|" + f.More + ">"
	}
	return out + "{" + p.Shown + "}"
}

// want plays a text both ways, with each fuel and each depth at which it could end otherwise, and holds what is told against what must be.
func want(t *testing.T, s, must string) {
	t.Helper()
	r := compiled(t, s, parsed(t, s))
	whole := r.alike(t, muchFuel, muchDepth)
	if got := whole.short(); got != must {
		t.Errorf("C3: %s\n%s; must be\n%s", brief(s), brief(got), brief(must))
	}
	r.everyFuel(t, whole)
	r.everyDepth(t, whole)
}

// everyFuel is each, as long as there are not too many: then those at both ends, and some between.
func (r run) everyFuel(t *testing.T, whole story) {
	t.Helper()
	for fuel := 0; fuel <= whole.Steps+1; fuel++ {
		s := r.alike(t, fuel, muchDepth)
		if spent := s.End == api.Spent; whole.End != api.Spent && spent != (fuel < whole.Steps) {
			t.Fatalf("C3: fuel %d of %d steps: %s\n%s", fuel, whole.Steps, s.short(), brief(r.text))
		}
		if fuel > 40 && fuel < whole.Steps-10 {
			fuel += whole.Steps / 10
		}
	}
}

// everyDepth is each from one call on, to the least one that is enough, and one more; and the greatest.
func (r run) everyDepth(t *testing.T, whole story) {
	t.Helper()
	for depth := 1; ; depth++ {
		s := r.alike(t, muchFuel, depth)
		if s.End != api.Overflow || depth == muchDepth {
			r.alike(t, muchFuel, depth+1)
			break
		}
		r.alike(t, max(s.Steps-1, 0), depth)
	}
	if whole.End != api.Overflow {
		r.alike(t, muchFuel, api.MaxDepth)
	}
}

// wantMain plays main of these statements, behind what is declared.
func wantMain(t *testing.T, declared, s, must string) {
	t.Helper()
	want(t, declared+"\nfunc main() { "+s+" }\n", must)
}

// row is a main, and what is told of it.
type row struct{ s, must string }

func wantRows(t *testing.T, declared string, rows []row) {
	t.Helper()
	for _, r := range rows {
		wantMain(t, declared, r.s, r.must)
	}
}
