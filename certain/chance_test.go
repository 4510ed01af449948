package certain_test

import (
	"strings"
	"testing"

	"guise/certain"
	"guise/parse"
)

// counted is how often what was told.
type counted map[string]int

func (c counted) least(t *testing.T, least map[string]int) {
	t.Helper()
	for what, n := range least {
		if c[what] < n {
			t.Errorf("%s came %d times", what, c[what])
		}
	}
	if testing.Verbose() {
		t.Log(c)
	}
}

func (c counted) takeClaims(l []certain.Claim) {
	for _, one := range l {
		if one.Always {
			c["always"]++
		} else {
			c["never"]++
		}
	}
}

// Programs by chance, against the second reading.
func TestProgramsByChance(t *testing.T) {
	g := growing(1)
	c := counted{}
	for range 1500 {
		s, n := g.grown(t, false)
		m := asTheModel(t, n, s)
		if t.Failed() {
			return
		}
		l, _ := certain.Look(n)
		c.takeClaims(l)
		c["open"] += len(m.asserted) - len(l)
		for _, b := range m.sets {
			c["types"] += len(b)
		}
		c["sets"] += len(m.sets)
		c["bytes"] += len(s)
		c["asserted"] += strings.Count(s, ".(")
	}
	c.least(t, map[string]int{"always": 1000, "never": 1000})
}

func FuzzPrograms(f *testing.F) {
	f.Add(uint64(1), "var a = 1\nfunc main() { x := a.(int) }")
	f.Add(uint64(2), "func f(x) { return x }\nvar b = [f, f(1)]\nfunc main() { switch b[0](2).(type) { case int, nil: } }")
	f.Fuzz(func(t *testing.T, seed uint64, text string) {
		g := growing(seed)
		s, n := g.grown(t, seed%2 == 0)
		asTheModel(t, n, s)
		n, err := parse.Program(text)
		if err == nil && mayBe(n) {
			asTheModel(t, n, text)
		} else if err == nil && typed(t, n) != claimed(t, n, false) {
			t.Errorf("P2: %q: %s, %s", text, typed(t, n), claimed(t, n, false))
		}
	})
}
