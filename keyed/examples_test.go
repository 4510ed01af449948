package keyed_test

import (
	"testing"

	"guise/keyed"
)

func TestExamples(t *testing.T) {
	m := keyed.New()
	put(t, m, integer(1), text("a"))
	put(t, m, typed("T", integer(1)), text("b"))
	put(t, m, float(1), text("c"))
	put(t, m, none, text("d"))
	if m.Len() != 4 {
		t.Errorf("M3: Len: %d, must be 4", m.Len())
	}
	wantAll(t, m, "1=a T(1)=b 1.0=c nil=d")

	m = keyed.New()
	put(t, m, float(0), text("a"))
	put(t, m, bits(minusZero), text("b"))
	wantAll(t, m, "0.0=b")

	m = keyed.New()
	put(t, m, nan, text("a"))
	put(t, m, nan, text("b"))
	if m.Len() != 2 {
		t.Errorf("M3: Len: %d, must be 2", m.Len())
	}
	wantNone(t, m, nan)
	drop(t, m, nan, false)
	wantAll(t, m, "NaN=a NaN=b")

	m = keyed.New()
	if got := fault(t, m.Put(list(0, 0), none)); got != "key list" {
		t.Errorf("M2: Put of the nil list: %q", got)
	}
	if got := fault(t, m.Put(record(integer(1), function(3)), none)); got != "key func" {
		t.Errorf("M2: Put of {1, a func}: %q", got)
	}
	wantAll(t, m, "")
}

func TestExamplesOfRanges(t *testing.T) {
	m := filled(t, "1=a 2=b 3=c")
	wantRange(t, m, m.Walk(), []string{"~2 ~3 3=e 4=f"}, "1=a 3=e", "1=a 3=e 4=f")
	m = filled(t, "1=a 2=b")
	wantRange(t, m, m.All(), []string{"~2 1=z"}, "1=a 2=b", "1=z")
}
