package assert_test

import (
	"strings"
	"testing"

	"guise/api"
	"guise/assert"
)

// each goes over data of programs by chance, right and not, with a table each.
func each(seed uint64, do func(g *grower, d api.Datum)) {
	g := growing(seed)
	for range 300 {
		g.program()
		for range 8 {
			do(g, g.datum(2))
			do(g, g.odd(2))
		}
	}
}

// A6: Must has no fault just if Holds, and is the fault `conversion` else.
func TestMustJustIfHolds(t *testing.T) {
	yes, no := 0, 0
	each(11, func(g *grower, d api.Datum) {
		for _, want := range append(g.all, d.Type) {
			for _, star := range []bool{false, true} {
				_, err := assert.Must(g.x, d, want, star)
				holds := assert.Holds(g.x, d, want, star)
				if holds != (err == nil) || !holds && !strings.HasPrefix(told(t, err), "conversion|") {
					t.Fatalf("A6: %s, %q, %v: Holds %v, Must %v", brief(d), want, star, holds, err)
				}
				if holds {
					yes++
				} else {
					no++
				}
			}
		}
	})
	if yes < 1000 || no < 1000 {
		t.Errorf("%d hold, %d do not", yes, no)
	}
}

// A6: Choose is the first row with a case that Holds says yes of: ahead of it there is none, whatever rows stand behind.
func TestChooseIsTheFirst(t *testing.T) {
	each(12, func(g *grower, d api.Datum) {
		rows := g.rows()
		n := assert.Choose(g.x, d, rows)
		for i, row := range rows {
			fits := false
			for _, c := range row {
				fits = fits || c.Nil && d.Kind == api.KNil || !c.Nil && assert.Holds(g.x, d, c.Want, c.Pointer)
			}
			if fits && (n < 0 || i < n) || i == n && !fits {
				t.Fatalf("A6: Choose(%s, %v): %d, row %d: %v", brief(d), rows, n, i, fits)
			}
		}
		if n >= len(rows) || n < -1 {
			t.Fatalf("A6: row %d of %d", n, len(rows))
		}
		if more := assert.Choose(g.x, d, append(rows, []assert.Case{{Nil: true}, {Want: "any"}})); n >= 0 && more != n || n < 0 && more != len(rows) {
			t.Fatalf("A6: with a row that always fits: %d, was %d of %d", more, n, len(rows))
		}
	})
}

// A6: what holds a protocol has no `missing` of any method that it wants, each with as many arguments.
func TestWhatHoldsHasTheMethods(t *testing.T) {
	seen := map[bool]int{}
	each(13, func(g *grower, d api.Datum) {
		for _, protocol := range append(g.x.Protocols(), "any") {
			wants, _ := g.x.Wants(protocol)
			holds := assert.Holds(g.x, d, protocol, false)
			all := d.Kind != api.KNil
			for _, w := range wants {
				f, err := assert.Select(g.x, d, w.Name)
				missing := strings.HasPrefix(told(t, err), "missing|")
				of := g.x.Find(d.Type, d.Kind == api.KPointer, w.Name)
				if holds && (missing || of.Count != w.Count || err == nil && f.Count != w.Count) {
					t.Fatalf("A6: %s holds %s, and %s is %s, %v", brief(d), protocol, w.Name, found(f), err)
				}
				all = all && !missing && of.Kind != api.FoundField && of.Count == w.Count
			}
			if holds != all {
				t.Fatalf("T4: %s holds %s: %v; it has all that is wanted: %v", brief(d), protocol, holds, all)
			}
			if len(wants) > 0 {
				seen[holds]++
			}
		}
	})
	if seen[true] < 300 || seen[false] < 300 {
		t.Errorf("%v", seen)
	}
}

// A6: all but nil hold `any`; nothing that holds a type holds another one.
func TestOneTypeEach(t *testing.T) {
	each(14, func(g *grower, d api.Datum) {
		if assert.Holds(g.x, d, "any", false) != (d.Kind != api.KNil) {
			t.Fatalf("A6: any, of %s", brief(d))
		}
		held := map[string]int{}
		for _, want := range append(g.all, d.Type) {
			for _, star := range []bool{false, true} {
				if assert.Holds(g.x, d, want, star) && !modelProtocol(g.x, want, star) {
					held[starred(star, want)+"|"+want]++
				}
			}
		}
		if len(held) > 1 || d.Kind == api.KNil && len(held) > 0 {
			t.Fatalf("A6: %s holds %v", brief(d), held)
		}
	})
}

// A6: what holds a protocol holds all that this one embeds, at once or by others.
func TestEmbeddedProtocolsAreHeld(t *testing.T) {
	x := table(t, of)
	embeds := map[string]string{"Both": "One Two", "All": "Both One Two", "More": "All Both One Two", "Wide": "None error"}
	for _, name := range append(x.Names(), "int", "nobody") {
		for _, kind := range []int{api.KStruct, api.KPointer, api.KInt} {
			d := typed(kind, name)
			for protocol, list := range embeds {
				for within := range strings.FieldsSeq(list) {
					if assert.Holds(x, d, protocol, false) && !assert.Holds(x, d, within, false) {
						t.Errorf("A6: %s holds %s, and not %s", brief(d), protocol, within)
					}
				}
			}
		}
	}
	holding(t, x, nilOf("High"), "All Both One Two", "More")
	holding(t, x, nilOf("fault"), "Wide None error", "One")
	// by chance: a protocol that wants all that another one wants
	each(15, func(g *grower, d api.Datum) {
		for _, p := range g.x.Protocols() {
			for _, q := range g.x.Protocols() {
				if modelWantsAll(g, p, q) && assert.Holds(g.x, d, p, false) && !assert.Holds(g.x, d, q, false) {
					t.Fatalf("A6: %s holds %s, and not %s", brief(d), p, q)
				}
			}
		}
	})
}

func modelWantsAll(g *grower, p, q string) bool {
	have := map[api.Method]int{}
	wants, _ := g.x.Wants(p)
	for _, w := range wants {
		have[w]++
	}
	wants, _ = g.x.Wants(q)
	for _, w := range wants {
		if have[w] == 0 {
			return false
		}
	}
	return true
}

// A7: a pointer to none is not nil: it holds its type, and each protocol that its type has the methods of; and what a pointer to an
// object holds, it holds. Methods with a pointer receiver of its own type are found.
func TestNilWithin(t *testing.T) {
	own := 0
	g := growing(16)
	for range 400 {
		g.program()
		for _, name := range g.x.Names() {
			if kind, _ := g.x.Under(name); kind != api.KStruct {
				continue
			}
			d, object := nilOf(name), pointer(name, 4, 1)
			if !assert.Holds(g.x, d, name, true) || assert.Holds(g.x, d, name, false) || assert.Choose(g.x, d, cases("nil")) != -1 {
				t.Fatalf("A7: nil(*%s) is nil, or not a *%s", name, name)
			}
			for _, protocol := range append(g.x.Protocols(), "any") {
				if is := len(modelLacks(g.x, d, protocol)) == 0; assert.Holds(g.x, d, protocol, false) != is || assert.Holds(g.x, object, protocol, false) != is {
					t.Fatalf("A7: nil(*%s) holds %s: %v", name, protocol, !is)
				}
			}
			for _, m := range g.x.Methods(name, true) {
				want := g.x.Find(name, true, m.Name)
				f, err := assert.Select(g.x, d, m.Name)
				if itsOwn := want.Pointer && want.Type == name && len(want.Path) == 0; itsOwn {
					own++
					if err != nil || f.Kind != api.FoundMethod || f.Type != name || !f.Pointer || f.Count != m.Count || len(f.Path) > 0 {
						t.Fatalf("A7: nil(*%s).%s: %+v, %v", name, m.Name, f, err)
					}
				} else if told(t, err) != "nil|method "+m.Name {
					t.Fatalf("A4: nil(*%s).%s: %+v, %v", name, m.Name, f, err)
				}
			}
		}
	}
	if own < 300 {
		t.Errorf("%d methods of their own", own)
	}
}
