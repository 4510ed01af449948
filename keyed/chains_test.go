package keyed_test

import (
	"slices"
	"testing"

	"guise/api"
	"guise/keyed"
	"guise/value"
)

// clash is one of very many keys whose numbers of value.Hash are the same, and that are not equal: T{n, m}, where m makes good what n made
// unlike. It knows how layer 7 makes its numbers: TestClash tells if that has become something else.
func clash(n int) api.Datum {
	stir := func(h uint64, more ...uint64) uint64 {
		for _, m := range more {
			h = (h ^ m) * 0x9E3779B97F4A7C15
			h ^= h >> 32
		}
		return h
	}
	h := stir(0xCBF29CE484222325, api.KStruct, 1, 'T', 0, 0, 0, 0, 0, 2)
	h = stir(h, api.KInt, 3, 'i', 'n', 't', uint64(n), 0, 0, 0, 0, 0)
	h = stir(h, api.KInt, 3, 'i', 'n', 't')
	return record(integer(n), integer(int(h)))
}

func hash(t *testing.T, d api.Datum) uint64 {
	t.Helper()
	h, err := value.Hash(d)
	if err != nil {
		t.Fatalf("P7.7: Hash(%s): %v", short(d), err)
	}
	return h
}

func TestClash(t *testing.T) {
	for n := range 1000 {
		if is, err := value.Equal(clash(n), clash(n+1)); is || err != nil {
			t.Fatalf("%s and %s are equal", short(clash(n)), short(clash(n+1)))
		}
		if hash(t, clash(n)) != hash(t, clash(0)) {
			t.Fatal("value.Hash has become another one: clash must be made anew")
		}
	}
}

// neighbours are keys with unlike hashes that stand in one chain, as long as there are at most so many heads (a power of two).
func neighbours(t *testing.T, n int, heads uint64) []api.Datum {
	t.Helper()
	var out []api.Datum
	for i := 0; len(out) < n; i++ {
		if hash(t, integer(i))%heads == 5 {
			out = append(out, integer(i))
		}
	}
	return out
}

// In one chain each key is found, put anew and taken out by itself: the first, the last, those between.
func TestInOneChain(t *testing.T) {
	var clashes []api.Datum
	for n := range 40 {
		clashes = append(clashes, clash(n))
	}
	near := neighbours(t, 40, 1024)
	for _, all := range [][]api.Datum{clashes[:3], near[:3], clashes, near, slices.Concat(clashes[:9], near[:9])} {
		for turn := range 8 {
			order := dice(uint64(turn)).Perm(len(all))
			switch turn {
			case 0:
				slices.Sort(order)
			case 1:
				slices.Sort(order)
				slices.Reverse(order)
			}
			chained(t, all, order)
		}
	}
}

// chained lays keys down, and takes them out in another order; half of them is laid down again between.
func chained(t *testing.T, all []api.Datum, order []int) {
	t.Helper()
	m, model := keyed.New(), &pairs{}
	both := func(what func(m table)) {
		what(m)
		what(model)
	}
	check := func() {
		t.Helper()
		if got, want := over(m.All()), over(model.All()); got != want || m.Len() != model.Len() {
			t.Fatalf("M7: %s, must be %s", got, want)
		}
		for _, k := range all {
			v, is, _ := m.Get(k)
			w, must, _ := model.Get(k)
			if is != must || !value.Same(v, w) {
				t.Fatalf("M7: Get(%s): %s, %v, must be %s, %v", short(k), short(v), is, short(w), must)
			}
		}
	}
	for n, k := range all {
		both(func(m table) { put(t, m, k, integer(n)) })
		check()
	}
	for n, i := range order {
		both(func(m table) { drop(t, m, all[i], true) })
		if n%2 == 0 {
			both(func(m table) { put(t, m, all[order[n/2]], integer(1000+n)) })
		}
		check()
	}
	for _, i := range order {
		_, left, _ := model.Get(all[i])
		both(func(m table) { drop(t, m, all[i], left) })
		check()
	}
	if m.Len() != 0 {
		t.Errorf("M7: %d are left", m.Len())
	}
}

// Many entries: the heads are made anew again and again, with entries that go, and come again, between.
func TestManyEntries(t *testing.T) {
	const n = 6000
	m := keyed.New()
	for i := range n {
		put(t, m, integer(i), integer(i))
		switch i % 6 {
		case 2:
			drop(t, m, integer(i-1), true)
		case 4:
			put(t, m, integer(i-1), integer(-i))
		case 5:
			drop(t, m, integer(i-1), true)
			put(t, m, integer(i-1), none)
		}
	}
	var want []int
	for i := 0; i < n; i += 6 {
		wantGet(t, m, integer(i), integer(i))
		wantNone(t, m, integer(i+1))
		wantGet(t, m, integer(i+2), integer(i+2))
		wantGet(t, m, integer(i+3), integer(-i-4))
		wantGet(t, m, integer(i+4), none)
		wantGet(t, m, integer(i+5), integer(i+5))
		want = append(want, i, i+2, i+3, i+5, i+4)
	}
	if m.Len() != len(want) {
		t.Fatalf("M1: Len: %d, must be %d", m.Len(), len(want))
	}
	for i, n := range want {
		if i%2 == 0 {
			drop(t, m, integer(n), true)
		}
	}
	at := 1
	for k := range m.All() {
		if k.N != want[at] {
			t.Fatalf("M3: %d in the place of %d", k.N, want[at])
		}
		at += 2
	}
	if at != len(want)+1 {
		t.Errorf("M4: the last one that was told is %d, must be %d", at-2, len(want)-1)
	}
}

// Keys of all sorts among many others.
func TestAllSortsAmongMany(t *testing.T) {
	m := keyed.New()
	all := keys()
	for i, k := range all {
		put(t, m, k, integer(i))
		put(t, m, clash(i), integer(-i))
		for j := range 40 {
			put(t, m, text(short(integer(i*40+j))+"!"), nan)
		}
	}
	if m.Len() != 42*len(all) {
		t.Fatalf("M1: Len: %d, must be %d", m.Len(), 42*len(all))
	}
	for i, k := range all {
		wantGet(t, m, k, integer(i))
		wantGet(t, m, clash(i), integer(-i))
		drop(t, m, k, true)
	}
	for i, k := range all {
		wantNone(t, m, k)
		wantGet(t, m, clash(i), integer(-i))
	}
}

// In the midst of a range so many come that the heads are made anew, and all go.
func TestGrownMeanwhile(t *testing.T) {
	const n = 100
	for _, c := range []struct {
		name string
		of   func(m *keyed.Map) func(func(api.Datum, api.Datum) bool)
		want func(i int) int
	}{
		{"M4: All", func(m *keyed.Map) func(func(api.Datum, api.Datum) bool) { return m.All() }, func(i int) int { return i }},
		{"M5: Walk", func(m *keyed.Map) func(func(api.Datum, api.Datum) bool) { return m.Walk() }, func(i int) int { return i + 1000*min(i, 1) }},
	} {
		m := keyed.New()
		for i := range n {
			put(t, m, integer(i), integer(i))
		}
		turn := 0
		for k, v := range c.of(m) {
			if k.N != turn || v.N != c.want(turn) {
				t.Fatalf("%s: %s, %s in turn %d", c.name, short(k), short(v), turn)
			}
			if turn == 0 {
				for i := range n {
					drop(t, m, integer(n-1-i), true)
					put(t, m, integer(n-1-i), integer(n-1-i+1000))
				}
			}
			for i := range 30 {
				put(t, m, integer(n+30*turn+i), none)
			}
			turn++
		}
		if turn != n || m.Len() != 31*n {
			t.Errorf("%s: %d turns; Len %d", c.name, turn, m.Len())
		}
		turn = 0
		for k := range c.of(m) {
			turn++
			if turn > 1 {
				t.Fatalf("%s: %s was taken out", c.name, short(k))
			}
			for i := range 31 * n {
				drop(t, m, integer(i), true)
			}
			if m.Len() != 0 {
				t.Errorf("%s: %d are left", c.name, m.Len())
			}
			if c.name == "M4: All" {
				break
			}
		}
	}
}
