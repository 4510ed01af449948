package units_test

import (
	"fmt"
	"strings"
	"testing"

	"guise/api"
	"guise/tree"
	"guise/units"
)

// held holds both calls against the model.
func held(t *testing.T, l []units.Unit) outcome {
	t.Helper()
	row, wrong := modelOrder(l)
	must := strings.Trim(fmt.Sprint(row), "[]")
	if wrong != "" {
		must = wrong
	}
	if got := ordered(t, l); got != must {
		t.Fatalf("U1: %s%s, must be\n%s", listed(l), got, must)
	}
	o := modelJoin(l)
	if got := joined(t, l); got != o.told() {
		text := o.wrong
		if text == "" {
			text = printed(t, o.tree)
		}
		n, err := units.Join(l)
		other, _ := tree.Print(n)
		t.Fatalf("U2: %s%v, must be\n%s\nin short %s, %s", listed(l), err, text, other, text)
	}
	return o
}

// counted is what the units drawn by chance had: how often an error was told, and, of those that were joined, how often a name was what.
type counted map[string]int

func (c counted) take(o outcome) {
	if o.wrong != "" {
		word := strings.Fields(o.wrong)[0]
		if o.unit >= 0 {
			word += " in a tree"
		}
		c[word]++
		return
	}
	c["joined"]++
	for _, u := range o.units {
		which := "another one's "
		if u.first {
			which = "the first one's "
		}
		for _, s := range u.spots {
			c.takeSpot(which, u, s)
		}
	}
}

func (c counted) takeSpot(which string, u *modelUnit, s *spot) {
	imported := func() bool {
		for _, o := range u.imports {
			if o.name == s.Text {
				return true
			}
		}
		return false
	}
	switch {
	case u.speaksOf(s) != nil:
		c[which+"unit spoken of"]++
	case s.Kind == api.NName && s.in.Kind == api.NSelect && imported():
		c[which+"unit hidden"]++
	case s.Kind == api.NName && isUse(s) && u.seen(s) && u.textOf(s) == s.Text:
		c[which+"variable"]++
	case u.textOf(s) != s.Text:
		c[which+fmt.Sprint(s.Kind)]++
	}
}

// Units by chance, with whatever is wrong.
func TestUnitsByChance(t *testing.T) {
	g := growing(1)
	c := counted{}
	for range 4000 {
		c.take(held(t, g.units()))
	}
	for what, least := range map[string]int{
		"!unit": 30, "!twice": 5, "!import": 50, "!byte": 5, "!token": 10, "!unit in a tree": 50, "!twice in a tree": 5, "!long in a tree": 5, "!unknown in a tree": 50, "joined": 500,
		"the first one's unit spoken of": 100, "another one's unit spoken of": 1000, "the first one's unit hidden": 50, "another one's unit hidden": 200, "another one's variable": 1000,
		fmt.Sprint("another one's ", api.NName): 1000, fmt.Sprint("another one's ", api.NEmbed): 100, fmt.Sprint("another one's ", api.NEmbedPointer): 100, fmt.Sprint("another one's ", api.NMake): 100,
		fmt.Sprint("another one's ", api.NSelect): 100, fmt.Sprint("another one's ", api.NPair): 50, fmt.Sprint("another one's ", api.NProtocol): 100, fmt.Sprint("another one's ", api.NType): 50,
	} {
		if c[what] < least {
			t.Errorf("%s came %d times", what, c[what])
		}
	}
	if testing.Verbose() {
		t.Log(c)
	}
}

// Texts that are cut, turned or put together by chance: a value or an error, always the model's.
func TestSpoiltUnits(t *testing.T) {
	g := growing(2)
	for range 3000 {
		l := g.units()
		for range 1 + g.IntN(3) {
			s := &l[g.IntN(len(l))].Source
			*s = g.spoil(*s)
		}
		held(t, l)
	}
}

func (g *grower) spoil(s string) string {
	at := g.IntN(len(s) + 1)
	switch g.IntN(4) {
	case 0:
		return s[at:]
	case 1:
		return s[:at]
	case 2:
		return s[:at] + oneOf(g.Rand, " ", "\n", "\t", "//", "import", "import a\n", "a.", "__", "\r", "\xff", "}", "a__", ";") + s[at:]
	}
	return s[:at] + s[min(len(s), at+1+g.IntN(4)):]
}

func FuzzUnits(f *testing.F) {
	f.Add(uint64(1), 0, "import a\nvar x = a.x", "b")
	f.Fuzz(func(t *testing.T, seed uint64, which int, source, name string) {
		g := growing(seed)
		l := g.units()
		held(t, l)
		i := max(0, which) % len(l)
		l[i].Source = g.spoil(l[i].Source)
		held(t, l)
		l[i].Source = source
		held(t, l)
		l[i].Name = name
		held(t, l)
	})
}
