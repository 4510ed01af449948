package keyed_test

import (
	"slices"
	"strconv"
	"strings"
	"testing"

	"guise/api"
	"guise/keyed"
	"guise/value"
)

func TestNew(t *testing.T) {
	m := keyed.New()
	if m == nil || m.Len() != 0 {
		t.Fatalf("M1: New: %v", m)
	}
	wantAll(t, m, "")
	for _, k := range keys() {
		wantNone(t, m, k)
		drop(t, m, k, false)
	}
	if other := keyed.New(); other == m {
		t.Error("M1: two are one")
	}
	wantAll(t, m, "")
}

func TestLen(t *testing.T) {
	m := keyed.New()
	for i, step := range strings.Fields("1=a 2=b 1=c nan=d nan=e ~1 ~1 ~nan 0.0=f -0.0=g ~2 ~-0.0 nil=h ~nil") {
		do(t, m, step)
		if want := []int{1, 2, 2, 3, 4, 3, 3, 3, 4, 4, 3, 2, 3, 2}[i]; m.Len() != want {
			t.Errorf("M1: Len behind %s: %d, must be %d", step, m.Len(), want)
		}
	}
}

// Each key has an entry of its own, whatever lies beside it, and in whichever order they came; as values they are given as they are.
func TestEachKeyByItself(t *testing.T) {
	all := keys()
	for turn := range 3 {
		m := keyed.New()
		for n, k := range all {
			wantNone(t, m, k)
			put(t, m, k, integer(n))
			if m.Len() != n+1 {
				t.Fatalf("M3: Put(%s): Len %d, must be %d", short(k), m.Len(), n+1)
			}
		}
		for n, k := range all {
			wantGet(t, m, k, integer(n))
			put(t, m, k, k)
			wantGet(t, m, k, k)
		}
		n := 0
		for k, v := range m.All() {
			if !value.Same(k, all[n]) || !value.Same(v, all[n]) {
				t.Fatalf("M4: %d: %s, %s, must be %s", n, short(k), short(v), short(all[n]))
			}
			n++
		}
		for n, k := range all {
			drop(t, m, k, true)
			drop(t, m, k, false)
			wantNone(t, m, k)
			for _, other := range all[n+1:] {
				wantGet(t, m, other, other)
			}
		}
		wantAll(t, m, "")
		dice(uint64(turn)).Shuffle(len(all), func(i, j int) { all[i], all[j] = all[j], all[i] })
	}
}

// What is no key may be a value all the same.
func TestValuesOfEachKind(t *testing.T) {
	values := slices.Concat(keys(), lost(), noKeys(), []api.Datum{bits(minusZero), record(bits(minusZero)), typed("T", bits(minusZero))})
	m := keyed.New()
	for _, v := range values {
		put(t, m, integer(1), v)
		wantGet(t, m, integer(1), v)
		for k, told := range m.All() {
			if !value.Same(k, integer(1)) || !value.Same(told, v) {
				t.Errorf("M4: %s: %s, must be %s", short(k), short(told), short(v))
			}
		}
		for k, told := range m.Walk() {
			if !value.Same(k, integer(1)) || !value.Same(told, v) {
				t.Errorf("M5: %s: %s, must be %s", short(k), short(told), short(v))
			}
		}
	}
	if m.Len() != 1 {
		t.Errorf("M3: Len: %d", m.Len())
	}
}

// A nil that lies under a key is not the same as no entry.
func TestNil(t *testing.T) {
	m := filled(t, "1=a")
	put(t, m, integer(2), none)
	put(t, m, none, none)
	wantGet(t, m, integer(2), none)
	wantGet(t, m, none, none)
	wantNone(t, m, integer(3))
	wantAll(t, m, "1=a 2=nil nil=nil")
	drop(t, m, none, true)
	wantNone(t, m, none)
	wantNone(t, m, pointer(0))
	put(t, m, pointer(0), none)
	wantNone(t, m, none)
	wantNone(t, m, typed("U", pointer(0)))
	wantAll(t, m, "1=a 2=nil *T@0 0 0 0 []=nil")
}

// A key and its place stay, when its value is put anew; a key that was taken out has a new place.
func TestPlaces(t *testing.T) {
	for _, c := range []struct{ done, want string }{
		{"1=a 2=b 3=c 1=d", "1=d 2=b 3=c"},
		{"1=a 2=b 3=c 2=d 3=e", "1=a 2=d 3=e"},
		{"3=a 1=b 2=c", "3=a 1=b 2=c"},
		{"1=a 2=b 3=c ~1", "2=b 3=c"},
		{"1=a 2=b 3=c ~2", "1=a 3=c"},
		{"1=a 2=b 3=c ~3", "1=a 2=b"},
		{"1=a 2=b 3=c ~1 1=d", "2=b 3=c 1=d"},
		{"1=a 2=b 3=c ~2 2=d", "1=a 3=c 2=d"},
		{"1=a 2=b 3=c ~3 3=d", "1=a 2=b 3=d"},
		{"1=a 2=b 3=c ~3 4=d", "1=a 2=b 4=d"},
		{"1=a ~1 2=b", "2=b"},
		{"1=a 2=b ~1 ~2 2=c 1=d", "2=c 1=d"},
		{"1=a ~1 ~1 1=b 1=c", "1=c"},
		{"1=a ?1 ?2 2=b ?1", "1=a 2=b"},
	} {
		wantAll(t, filled(t, c.done), c.want)
	}
}

func TestNoughts(t *testing.T) {
	for _, c := range []struct{ done, want string }{
		{"0.0=a -0.0=b", "0.0=b"},
		{"-0.0=a 0.0=b", "-0.0=b"},
		{"0.0=a ~-0.0", ""},
		{"0.0=a 1=b ~-0.0 -0.0=c 0.0=d", "1=b -0.0=d"},
		{"{0.0}=a {-0.0}=b", "T{0.0}=b"},
		{"{-0.0}=a {0.0}=b", "T{-0.0}=b"},
		{"{1,-0.0,0.0}=a {1,0.0,-0.0}=b {1,0.0,1.0}=c", "T{1, -0.0, 0.0}=b T{1, 0.0, 1.0}=c"},
		{"{0.0}=a ~{-0.0} {-0.0}=b", "T{-0.0}=b"},
		{"0=a 0.0=b {0}=c {0.0}=d -0.0=e", "0=a 0.0=e T{0}=c T{0.0}=d"},
	} {
		wantAll(t, filled(t, c.done), c.want)
	}
	m := filled(t, "0.0=a")
	wantGet(t, m, bits(minusZero), text("a"))
	put(t, m, typed("T", bits(minusZero)), text("b"))
	wantGet(t, m, typed("T", float(0)), text("b"))
	wantGet(t, m, float(0), text("a"))
	m = keyed.New()
	put(t, m, record(integer(1), record(bits(minusZero))), text("a"))
	wantGet(t, m, record(integer(1), record(float(0))), text("a"))
}

// Keys that are not equal to themselves: each Put lays an entry down, that nobody finds.
func TestNotEqualToItself(t *testing.T) {
	m := filled(t, "1=a")
	told := []string{"1=a"}
	for turn := range 3 {
		for _, k := range lost() {
			told = append(told, short(k)+"="+strconv.Itoa(turn))
			put(t, m, k, text(strconv.Itoa(turn)))
			wantNone(t, m, k)
			drop(t, m, k, false)
			wantAll(t, m, strings.Join(told, " "))
		}
	}
	wantGet(t, m, integer(1), text("a"))
	drop(t, m, integer(1), true)
	wantAll(t, m, strings.Join(told[1:], " "))
	do(t, m, "2=b")
	wantAll(t, m, strings.Join(append(told[1:], "2=b"), " "))
}

// Of very many NaNs, too, each is laid down in no time.
func TestManyNaNs(t *testing.T) {
	const n = 30000
	m := keyed.New()
	for i := range n {
		put(t, m, nan, integer(i))
		put(t, m, integer(i), nan)
	}
	if m.Len() != 2*n {
		t.Fatalf("M1: Len: %d", m.Len())
	}
	for i := range n {
		wantNone(t, m, nan)
		drop(t, m, nan, false)
		drop(t, m, integer(i), true)
	}
	i := 0
	for k, v := range m.Walk() {
		if !value.Same(k, nan) || v.N != i {
			t.Fatalf("M5: %d: %s, %s", i, short(k), short(v))
		}
		i++
	}
	if i != n {
		t.Errorf("M5: %d are told, must be %d", i, n)
	}
}

// wantRefused: each call tells this error, and nothing beside it; what is there stays as it was.
func wantRefused(t *testing.T, k api.Datum, want string) {
	t.Helper()
	for _, done := range []string{"", "1=a nil=b nan=c {1}=d"} {
		m := filled(t, done)
		was := all(t, m)
		v, is, err := m.Get(k)
		if got := fault(t, err); got != want || is || !value.Same(v, none) {
			t.Errorf("M2: Get(%s): %s, %v, %q, must be %q", short(k), short(v), is, got, want)
		}
		gone, err := m.Drop(k)
		if got := fault(t, err); got != want || gone {
			t.Errorf("M2: Drop(%s): %v, %q, must be %q", short(k), gone, got, want)
		}
		for _, v := range []api.Datum{none, integer(1), nan, list(0, 0), record(function(0))} {
			if got := fault(t, m.Put(k, v)); got != want {
				t.Errorf("M2: Put(%s, %s): %q, must be %q", short(k), short(v), got, want)
			}
		}
		wantAll(t, m, was)
	}
}

func TestNoKeys(t *testing.T) {
	for _, r := range refused() {
		for _, k := range r.all {
			wantRefused(t, k, "key "+r.more)
		}
	}
}

func TestWrongKeys(t *testing.T) {
	for _, k := range wrong() {
		wantRefused(t, k, "wrong")
	}
}

// A struct that stands within itself is no value; nor does it keep a call from ending.
func TestWithinItself(t *testing.T) {
	round := record(none)
	round.Items[0] = record()
	round.Items[0].Items = round.Items
	m := filled(t, "1=a")
	_, is, err := m.Get(round)
	if is || fault(t, err) != "wrong" {
		t.Errorf("M2: Get: %v, %v", is, err)
	}
	gone, err := m.Drop(round)
	if gone || fault(t, err) != "wrong" {
		t.Errorf("M2: Drop: %v, %v", gone, err)
	}
	if fault(t, m.Put(round, none)) != "wrong" || fault(t, m.Put(integer(1), round)) != "wrong" {
		t.Error("M2: Put")
	}
	wantAll(t, m, "1=a")
}

// v that may not be goes ahead of k that is no key; k that may not be, of all; and what lies there is not changed.
func TestWrongValues(t *testing.T) {
	ks := slices.Concat(noKeys(), []api.Datum{integer(1), integer(2), none, nan, record(nan, list(0, 0))}, wrong())
	m := filled(t, "1=a nil=b nan=c")
	for _, v := range wrong() {
		for _, k := range ks {
			if got := fault(t, m.Put(k, v)); got != "wrong" {
				t.Errorf("M2: Put(%s, %s): %q", short(k), short(v), got)
			}
		}
	}
	wantAll(t, m, "1=a nil=b NaN=c")
	for _, k := range wrong() {
		for _, v := range noKeys() {
			if got := fault(t, m.Put(k, v)); got != "wrong" {
				t.Errorf("M2: Put(%s, %s): %q", short(k), short(v), got)
			}
		}
	}
	wantAll(t, m, "1=a nil=b NaN=c")
}

// Behind an error, and within a range, a map goes on.
func TestErrorsWithinRanges(t *testing.T) {
	m := filled(t, "1=a 2=b nan=c")
	turns := 0
	for _, seq := range []func() string{func() string { return over(m.All()) }, func() string { return over(m.Walk()) }} {
		for range m.Walk() {
			turns++
			if fault(t, m.Put(list(0, 0), none)) != "key list" || fault(t, m.Put(integer(1), boolean(2))) != "wrong" {
				t.Error("M2: no error within a range")
			}
			if _, err := m.Drop(api.Datum{Kind: 99}); fault(t, err) != "wrong" {
				t.Errorf("M2: %v", err)
			}
			if got := seq(); got != "1=a 2=b NaN=c" {
				t.Errorf("M2: %s", got)
			}
		}
	}
	if turns != 6 {
		t.Errorf("M5: %d turns", turns)
	}
}

func TestTwoMaps(t *testing.T) {
	a, b := filled(t, "1=a 2=b nan=c"), filled(t, "2=x 3=y")
	for range a.Walk() {
		do(t, b, "~2 4=z nan=n")
		break
	}
	wantAll(t, a, "1=a 2=b NaN=c")
	wantAll(t, b, "3=y 4=z NaN=n")
	do(t, a, "~1 3=d")
	wantAll(t, a, "2=b NaN=c 3=d")
	wantAll(t, b, "3=y 4=z NaN=n")
	for k, v := range a.All() {
		put(t, b, k, v)
	}
	wantAll(t, b, "3=d 4=z NaN=n 2=b NaN=c")
	wantAll(t, a, "2=b NaN=c 3=d")
}
