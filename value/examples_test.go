package value_test

import (
	"testing"

	"guise/api"
	"guise/value"
)

func TestExamples(t *testing.T) {
	wantRight(t, none, true)
	wantRight(t, api.Datum{Kind: api.KInt}, false)
	wantRight(t, api.Datum{Kind: api.KInt, Type: "text"}, false)
	wantRight(t, typed("T", integer(5)), true)
	wantRight(t, boolean(2), false)
	wantRight(t, record(), true)
	wantRight(t, typed("int", record()), false)
	wantRight(t, typed("struct", record()), false)
	wantRight(t, pointer(0), true)
	wantRight(t, pointer(0, 0), false)
	wantRight(t, bits(oneNaN+1), false)
	wantRight(t, piece(0, 0, 1, 0), false)
	wantRight(t, api.Datum{Kind: api.KMap, Type: "map", Ref: api.Ref{Object: 5, Len: 1}}, false)

	if v, err := value.Of(none); v != nil || err != nil {
		t.Errorf("Of(nil): %v, %v", v, err)
	}
	v := of(t, pointer(0))
	if p, is := v.(value.Pointing); v.Type() != "*T" || !is || !p.None() {
		t.Errorf("Of a pointer to none: %s", v.Type())
	}
	if got := asks(of(t, integer(5))); got != "Ordered Keyed" {
		t.Errorf("an int is %s", got)
	}
	if got := asks(of(t, record(integer(1), list(3, 2)))); got != "" {
		t.Errorf("a struct with a list is %s", got)
	}
	if got := asks(of(t, record(integer(1), pointer(2)))); got != "Keyed" {
		t.Errorf("a struct with a pointer is %q", got)
	}

	wantRank(t, integer(5), integer(7), -1, true)
	wantRank(t, integer(5), text("5"), 0, false)
	wantRank(t, integer(5), typed("T", integer(5)), 0, false)
	wantRank(t, text("a"), text("ab"), -1, true)
	wantRank(t, float(1), nan, 0, false)
	wantRank(t, float(0), bits(minusZero), 0, true)

	wantEqual(t, integer(5), typed("T", integer(5)), "no")
	wantEqual(t, none, none, "yes")
	wantEqual(t, none, pointer(0), "no")
	wantEqual(t, list(1, 0), list(1, 0), "compare list")
	wantEqual(t, record(integer(1), list(1, 1)), record(integer(2), list(1, 1)), "no")
	wantEqual(t, record(integer(1), list(1, 1)), record(integer(1), list(2, 2)), "compare list")

	wantKey(t, record(nan, list(1, 1)), "")
	wantKey(t, record(list(1, 1), nan), "key list")
	wantKey(t, typed("F", function(0)), "key F")

	if hash(t, float(0)) != hash(t, bits(minusZero)) {
		t.Error("Hash of 0 and of -0 are not the same")
	}
	hash(t, integer(5))

	ten := api.Datum{Kind: 10}
	wantEqual(t, ten, integer(1), "wrong")
	wantEqual(t, integer(1), ten, "wrong")
	wantEqual(t, ten, ten, "wrong")
	wantSame(t, ten, ten, true)
	wantSame(t, ten, api.Datum{Kind: 10, N: 1}, false)
}
