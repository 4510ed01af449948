package heap_test

import (
	"fmt"
	"math"
	"slices"
	"strings"
	"testing"

	"guise/api"
	"guise/heap"
	"guise/value"
)

// got writes what Get answers.
func got(t testing.TB, h store, m, k api.Datum) string {
	t.Helper()
	d, is, err := h.Get(m, k)
	if is && err != nil || !is && !value.Same(d, none) {
		t.Fatalf("P2: Get: %s, %v, %v", short(d), is, err)
	}
	if err != nil {
		return fault(t, err)
	}
	return fmt.Sprint(short(d), " ", is)
}

// Keys of each kind: laid down, found, changed, taken out; their order is that in which they came.
func TestEntries(t *testing.T) {
	h := heap.New()
	m := h.Map()
	keys := []api.Datum{none, boolean(0), integer(0), integer(math.MinInt64), typed("T", integer(0)), float(0), float(math.Inf(1)), text(""), text(strings.Repeat("a", api.MaxText)), pointer(0), pointer(1), pointer(77, 1, 2), typed("U", pointer(0)), record(), record(none), record(pointer(5), integer(1)), record(nan, list(1, 1)), nan, within(99, none)}
	var want []string
	for i, k := range keys {
		must(t, h.Lay(m, k, integer(i)))
		want = append(want, short(k)+"="+fmt.Sprint(i))
		if h.Size(m) != i+1 {
			t.Fatalf("P10.7: Size: %d behind %d keys", h.Size(m), i+1)
		}
	}
	is(t, "P10.7: Keys", entries(h, m), strings.Join(want, " "))
	for i, k := range keys {
		found := fmt.Sprint(i, " true")
		if strings.Contains(short(k), "nan") {
			found = "nil false"
		}
		is(t, "P10.7: Get("+short(k)+")", got(t, h, m, k), found)
	}
	for i := len(keys) - 1; i >= 0; i -= 2 {
		k := keys[i]
		must(t, h.Drop(m, k))
		if !strings.Contains(short(k), "nan") {
			want = slices.Delete(want, i, i+1)
		}
		is(t, "P10.7: Get behind Drop("+short(k)+")", got(t, h, m, k), "nil false")
		is(t, "P10.7: Keys behind Drop("+short(k)+")", entries(h, m), strings.Join(want, " "))
		must(t, h.Drop(m, k))
	}
	is(t, "P10.7: Keys behind Drops of what is gone", entries(h, m), strings.Join(want, " "))
}

// nil and NaN as keys; a key that comes again has the later value, at its first place; 0.0 and -0.0 are one.
func TestKeysThatComeAgain(t *testing.T) {
	h := heap.New()
	m := h.Map()
	for i, k := range []api.Datum{nan, none, float(0), nan, integer(1), none, bits(minusZero), typed("M", integer(1)), integer(1)} {
		must(t, h.Lay(m, k, integer(i)))
	}
	is(t, "P10.7: Keys", entries(h, m), "nan=0 nil=5 0x0000000000000000=6 nan=3 1=8 M(1)=7")
	must(t, h.Drop(m, none))
	must(t, h.Lay(m, none, none))
	is(t, "P10.7: Keys", entries(h, m), "nan=0 0x0000000000000000=6 nan=3 1=8 M(1)=7 nil=nil")
	is(t, "P10.7: Get of nil", got(t, h, m, none), "nil true")
	is(t, "P10.7: Get of a NaN", got(t, h, m, nan), "nil false")
	// A map of a declared type is that map.
	must(t, h.Lay(typed("M", m), integer(1), m))
	is(t, "P10.7: Get", got(t, h, m, integer(1)), "map@1 true")
	if h.Size(typed("M", m)) != 6 || entries(h, typed("M", m)) != entries(h, m) {
		t.Errorf("P10.7: of a declared type: %s", entries(h, typed("M", m)))
	}
}

// Each value may lie under a key.
func TestValuesOfEntries(t *testing.T) {
	h := newZoo(t)
	m := mapping(zooMap)
	for _, v := range slices.Concat(leadless(), nils(), []api.Datum{m, list(77, 3), pointer(zooGone, 1), function(9), within(99, none)}) {
		must(t, h.Lay(m, integer(1), v))
		is(t, "P10.7: Get", got(t, h, m, integer(1)), short(v)+" true")
		is(t, "P10.7: Keys", entries(h, m), "1="+short(v)+" nil=list@2[0:5:5]")
	}
}

// Each reason stands ahead of the next one.
func TestFirstReasonOfMaps(t *testing.T) {
	h := newZoo(t)
	was := dump(t, h)
	no, there, unfit := mapping(0), mapping(zooMap), mapping(zooGone)
	key, noKey, bad := integer(9), record(integer(1), typed("L", list(0, 0))), boolean(2)
	for _, c := range []struct {
		m, k            api.Datum
		get, drop, lays string // Lay of a v that is right
	}{
		{no, key, "nil false", "", "nil map"},
		{no, none, "nil false", "", "nil map"},
		{no, nan, "nil false", "", "nil map"},
		{no, noKey, "key L", "key L", "nil map"},
		{no, bad, "wrong", "wrong", "wrong"},
		{typed("M", no), noKey, "key L", "key L", "nil map"},
		{there, noKey, "key L", "key L", "key L"},
		{there, bad, "wrong", "wrong", "wrong"},
		{there, function(zooFunction), "key func", "key func", "key func"},
		{there, mapping(0), "key map", "key map", "key map"},
		{there, list(zooArray, 1), "key list", "key list", "key list"},
		{there, list(77, 1), "key list", "key list", "key list"},
		{there, key, "nil false", "", "put"},
		{unfit, key, "wrong", "wrong", "wrong"},
		{unfit, noKey, "wrong", "wrong", "wrong"},
		{unfit, bad, "wrong", "wrong", "wrong"},
		{list(0, 0), noKey, "wrong", "wrong", "wrong"},
		{none, key, "wrong", "wrong", "wrong"},
		{typed("list", no), noKey, "wrong", "wrong", "wrong"},
	} {
		what := "P10.7: of " + short(c.m) + " and " + short(c.k)
		is(t, what+": Get", got(t, h, c.m, c.k), c.get)
		is(t, what+": Drop", fault(t, h.Drop(c.m, c.k)), c.drop)
		is(t, what+": Lay of what is not right", fault(t, h.Lay(c.m, c.k, bad)), "wrong")
		if c.lays != "put" {
			is(t, what+": Lay", fault(t, h.Lay(c.m, c.k, integer(1))), c.lays)
		}
		is(t, what+": behind it", dump(t, h), was)
	}
}

func TestSizeAndKeys(t *testing.T) {
	h := newZoo(t)
	for _, m := range []api.Datum{mapping(0), typed("M", mapping(0))} {
		keys, values := h.Keys(m)
		if h.Size(m) != 0 || len(keys) != 0 || len(values) != 0 {
			t.Errorf("P10.7: of none: %d, %s, %s", h.Size(m), shorts(keys), shorts(values))
		}
	}
	for _, m := range bad(api.KMap) {
		keys, values := h.Keys(m)
		if h.Size(m) != 0 || len(keys) != 0 || len(values) != 0 {
			t.Errorf("P10.7: of %s: %d, %s, %s", short(m), h.Size(m), shorts(keys), shorts(values))
		}
	}
	if h.Size(mapping(zooMap)) != 2 || entries(h, mapping(zooMap)) != `1="a" nil=list@2[0:5:5]` {
		t.Errorf("P10.7: %s", entries(h, mapping(zooMap)))
	}
	for n := range 300 {
		must(t, h.Lay(mapping(zooMap), integer(n), none))
		must(t, h.Lay(mapping(zooMap), nan, none))
	}
	if n := h.Size(mapping(zooMap)); n != 601 {
		t.Errorf("P10.7: Size: %d", n)
	}
}

func TestCalled(t *testing.T) {
	h := newZoo(t)
	for _, f := range []api.Datum{function(zooFunction), typed("F", function(zooFunction))} {
		is(t, "P10.8: Called", called(h, f), "7 [4] [1 map@3] true")
	}
	for _, f := range append(bad(api.KFunc), function(0), typed("F", function(0))) {
		is(t, "P10.8: Called of "+short(f), called(h, f), "0 [] [] false")
	}
	// Its variables are told, also if they are forgotten.
	h.Free(zooVariable)
	is(t, "P10.8: Called", called(h, function(zooFunction)), "7 [4] [1 map@3] true")
	h.Free(zooFunction)
	is(t, "P10.8: Called of what was forgotten", called(h, function(zooFunction)), "0 [] [] false")
}
