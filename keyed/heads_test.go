package keyed

import (
	"testing"

	"guise/api"
	"guise/value"
)

// wantChains: there are at least as many heads as entries; each entry stands in the chain of its hash, and in no other one.
func wantChains(t *testing.T, m *Map) {
	t.Helper()
	if m.count > len(m.heads)*rowLength {
		t.Fatalf("Ways: %d entries, %d heads", m.count, len(m.heads)*rowLength)
	}
	stood := map[*entry]int{}
	for i := range m.heads {
		for j, e := range m.heads[i] {
			for ; e != nil; e = e.next {
				stood[e]++
				if hash, _ := value.Hash(*e.key); e.hash != hash || m.head(hash) != &m.heads[i][j] {
					t.Fatalf("Ways: an entry of the hash %d stands in the chain %d, %d", hash, i, j)
				}
			}
		}
	}
	n := 0
	for e := range m.entries {
		n++
		if stood[e] != 1 || e.gone || e.behind.before != e || e.before.behind != e {
			t.Fatalf("Ways: an entry stands in %d chains; gone: %v", stood[e], e.gone)
		}
	}
	if n != m.count || len(stood) != n {
		t.Fatalf("Ways: %d entries, %d in their order, %d in chains", m.count, n, len(stood))
	}
}

// The heads are made anew, twice as many, just when there are more entries than heads.
func TestHeads(t *testing.T) {
	m := New()
	heads := len(m.heads) * rowLength
	integer := func(n int) api.Datum { return api.Datum{Kind: api.KInt, Type: "int", N: n} }
	nan := api.Datum{Kind: api.KFloat, Type: "float", F: 0x7FF8000000000001}
	grown := 0
	for i := range 1500 {
		for _, k := range []api.Datum{integer(i), nan, integer(i)} {
			m.Put(k, k)
			if m.Len() > heads {
				heads *= 2
				grown++
			}
			if len(m.heads)*rowLength != heads {
				t.Fatalf("Ways: %d heads for %d entries, must be %d", len(m.heads)*rowLength, m.Len(), heads)
			}
		}
		if i%5 == 0 {
			m.Drop(integer(i / 2))
		}
		if i%50 == 0 {
			wantChains(t, m)
		}
	}
	wantChains(t, m)
	if grown < 8 {
		t.Errorf("the heads were made anew %d times: the test says too little", grown)
	}
}

// Chains stay short: of ints in a row none is long.
func TestShortChains(t *testing.T) {
	m := New()
	for i := range 20000 {
		k := api.Datum{Kind: api.KInt, Type: "int", N: i}
		m.Put(k, k)
	}
	for i := range m.heads {
		for _, e := range m.heads[i] {
			n := 0
			for ; e != nil; e = e.next {
				n++
			}
			if n > 12 {
				t.Fatalf("Ways: a chain of %d", n)
			}
		}
	}
}
