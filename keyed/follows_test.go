package keyed_test

import (
	"testing"

	"guise/api"
	"guise/keyed"
	"guise/value"
)

// made is a map to which something was done by chance.
func made(seed uint64) *keyed.Map {
	r := dice(seed)
	from := some(r, 3+r.IntN(40), pool())
	m := keyed.New()
	for range 20 + r.IntN(150) {
		if r.IntN(3) > 0 {
			m.Put(oneOf(r, from...), integer(r.IntN(1000)))
		} else {
			m.Drop(oneOf(r, from...))
		}
	}
	return m
}

// listed is what All tells, as a list.
func listed(m table) []pair {
	var out []pair
	for k, v := range m.All() {
		out = append(out, pair{k: k, v: v})
	}
	return out
}

func itself(k api.Datum) bool {
	is, err := value.Equal(k, k)
	return is && err == nil
}

// What All tells is what Get tells; no two entries have one key; each key that is equal to itself is found.
func TestAllAndGet(t *testing.T) {
	for seed := range uint64(100) {
		m := made(seed)
		list := listed(m)
		for i, p := range list {
			if !itself(p.k) {
				wantNone(t, m, p.k)
				continue
			}
			wantGet(t, m, p.k, p.v)
			for _, q := range list[:i] {
				if is, _ := value.Equal(p.k, q.k); is {
					t.Errorf("M3: %s is there twice", short(p.k))
				}
			}
		}
	}
}

// What lies under one key hangs on no other key.
func TestNoOtherKey(t *testing.T) {
	from := pool()
	for seed := range uint64(60) {
		m, r := made(seed), dice(seed)
		k := oneOf(r, keys()...)
		put(t, m, k, text("mine"))
		for range 100 {
			other := oneOf(r, from...)
			if is, _ := value.Equal(k, other); is {
				continue
			}
			if r.IntN(2) == 0 {
				put(t, m, other, none)
			} else {
				m.Drop(other)
			}
			wantGet(t, m, k, text("mine"))
		}
		drop(t, m, k, true)
		wantNone(t, m, k)
	}
}

// Put of what is there already changes only that value.
func TestPutAnew(t *testing.T) {
	for seed := range uint64(60) {
		m := made(seed)
		list := listed(m)
		for i, p := range list {
			if !itself(p.k) {
				continue
			}
			put(t, m, p.k, text("new"))
			list[i].v = text("new")
			now := listed(m)
			if len(now) != len(list) || m.Len() != len(list) {
				t.Fatalf("M7: %d entries, must be %d", len(now), len(list))
			}
			for j := range now {
				if !value.Same(now[j].k, list[j].k) || !value.Same(now[j].v, list[j].v) {
					t.Fatalf("M7: Put(%s) changes %s, %s", short(p.k), short(list[j].k), short(list[j].v))
				}
			}
		}
	}
}

// Drop of all that is told leaves just the entries whose keys are not equal to themselves: behind a range, and within it.
func TestDropOfAll(t *testing.T) {
	left := 0
	for seed := range uint64(100) {
		want := &pairs{}
		for _, p := range listed(made(seed)) {
			if !itself(p.k) {
				want.list = append(want.list, p)
			}
		}
		left += want.Len()
		m := made(seed)
		for _, p := range listed(m) {
			drop(t, m, p.k, itself(p.k))
		}
		wantAll(t, m, over(want.All()))
		m = made(seed)
		for k := range m.All() {
			drop(t, m, k, itself(k))
		}
		wantAll(t, m, over(want.All()))
		m = made(seed)
		for k := range m.Walk() {
			drop(t, m, k, itself(k))
		}
		wantAll(t, m, over(want.All()))
	}
	if left < 100 {
		t.Errorf("only %d NaNs came by chance", left)
	}
}

// Two maps to which the same was done tell the same, whatever is done with others between.
func TestTheSame(t *testing.T) {
	for seed := range uint64(60) {
		a := made(seed)
		other := made(seed + 1)
		b := made(seed)
		if all(t, a) != all(t, b) {
			t.Errorf("M7: %s, and %s", all(t, a), all(t, b))
		}
		for k := range other.Walk() {
			other.Drop(k)
			put(t, other, k, none)
		}
		if all(t, a) != all(t, b) {
			t.Errorf("M7: %s, and %s", all(t, a), all(t, b))
		}
	}
}
