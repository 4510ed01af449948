package value_test

import (
	"testing"

	"guise/api"
	"guise/value"
)

// has tells whether one of these kinds stands in a datum, or a NaN.
func has(d api.Datum, isIt func(api.Datum) bool) bool {
	if isIt(d) {
		return true
	}
	for _, item := range d.Items {
		if has(item, isIt) {
			return true
		}
	}
	return false
}

func isNaN(d api.Datum) bool { return d.Kind == api.KFloat && d.F == oneNaN }

func isIncomparable(d api.Datum) bool {
	return d.Kind == api.KList || d.Kind == api.KMap || d.Kind == api.KFunc
}

func TestEqualFollows(t *testing.T) {
	g := growing(11)
	yes := 0
	for range 60000 {
		a := g.right(3)
		b := g.near(a)
		c := g.near(b)
		there, back := equal(t, a, b), equal(t, b, a)
		if there != back {
			t.Fatalf("P7.10: Equal of %s and %s: %s; the other way round %s", good(a), good(b), there, back)
		}
		if self := equal(t, a, a); self == "no" && !has(a, isNaN) || self == "yes" && has(a, isNaN) {
			t.Fatalf("P7.10: Equal of %s and itself: %s", good(a), self)
		}
		if there == "yes" && equal(t, b, c) == "yes" && !has(a, isNaN) && !has(b, isNaN) && !has(c, isNaN) {
			yes++
			wantEqual(t, a, c, "yes")
		}
		if value.Same(a, b) && !has(a, isNaN) && !has(a, isIncomparable) {
			wantEqual(t, a, b, "yes")
		}
		if there == "yes" && hash(t, a) != hash(t, b) {
			t.Fatalf("P7.7: %s and %s are equal, but not their hashes", good(a), good(b))
		}
		if value.Same(a, b) != value.Same(b, a) || !value.Same(a, apart(a)) {
			t.Fatalf("P7.8: %s and %s", good(a), good(b))
		}
	}
	if yes < 1000 {
		t.Errorf("only %d threes are equal: the test says too little", yes)
	}
}

func TestOrderFollows(t *testing.T) {
	g := growing(12)
	for range 60000 {
		a := g.right(0, api.KInt, api.KFloat, api.KText)
		b, c := typed(a.Type, g.right(0, a.Kind)), typed(a.Type, g.right(0, a.Kind))
		if isNaN(a) || isNaN(b) || isNaN(c) {
			continue
		}
		ab, one := rank(t, a, b)
		ba, two := rank(t, b, a)
		bc, three := rank(t, b, c)
		ac, four := rank(t, a, c)
		if !one || !two || !three || !four || ab != -ba || ab < -1 || ab > 1 {
			t.Fatalf("P7.11: %s, %s, %s: %d, %d, %d, %d", good(a), good(b), good(c), ab, ba, bc, ac)
		}
		if ab < 0 && bc < 0 && ac >= 0 || ab > 0 && bc > 0 && ac <= 0 || ab == 0 && bc == 0 && ac != 0 || ab == 0 && ac != bc {
			t.Fatalf("P7.11: %s, %s, %s: %d, %d, %d", good(a), good(b), good(c), ab, bc, ac)
		}
		want := "no"
		if ab == 0 {
			want = "yes"
		}
		wantEqual(t, a, b, want)
	}
}

func TestNilWithin(t *testing.T) {
	g := growing(13)
	for range 30000 {
		d := g.any()
		v, err := value.Of(d)
		if nothing := v == nil && err == nil; nothing != (d.Kind == api.KNil && value.Right(d)) {
			t.Fatalf("P7.12: Of(%s): %v, %v", brief(d), v, err)
		}
		if err != nil {
			continue
		}
		if again, err := value.Of(d); err != nil || (again == nil) != (v == nil) {
			t.Fatalf("P7.12: Of(%s): %v, %v", brief(d), again, err)
		}
	}
	for _, name := range []string{"", "T", "Long_name_1"} {
		for _, d := range []api.Datum{list(0, 0), mapping(0), function(0), pointer(0)} {
			want := d.Type
			if name != "" {
				d.Type, want = name, name
			}
			if d.Kind == api.KPointer {
				want = "*" + d.Type
			}
			v := of(t, d)
			if v.Type() != want {
				t.Errorf("P7.12: the type of %s is told as %q", good(d), v.Type())
			}
			if p, is := v.(value.Pointing); !is || !p.None() {
				t.Errorf("P7.12: %s does not lead to none", good(d))
			}
			wantEqual(t, d, none, "no")
			wantEqual(t, none, d, "no")
		}
	}
}

// What a value tells makes the same value again.
func TestThereAndBack(t *testing.T) {
	g := growing(14)
	for range 20000 {
		d := g.right(3)
		if d.Kind == api.KNil {
			continue
		}
		v := of(t, d)
		again := of(t, v.Datum())
		if again.Type() != v.Type() || asks(again) != asks(v) || !value.Same(again.Datum(), d) {
			t.Fatalf("P7.1: %s and %s", good(d), good(again.Datum()))
		}
	}
}
