package keyed_test

import (
	"iter"
	"strings"
	"testing"

	"guise/api"
	"guise/keyed"
)

// ranged goes over a range, does in each turn what is written for it, and writes what was told.
func ranged(t *testing.T, m table, seq iter.Seq2[api.Datum, api.Datum], turns []string) string {
	t.Helper()
	var out []string
	for k, v := range seq {
		if len(out) < len(turns) {
			do(t, m, turns[len(out)])
		}
		out = append(out, shortPair(k, v))
	}
	return strings.Join(out, " ")
}

func wantRange(t *testing.T, m table, seq iter.Seq2[api.Datum, api.Datum], turns []string, told, behind string) {
	t.Helper()
	if got := ranged(t, m, seq, turns); got != told {
		t.Errorf("M4, M5: with %q told is %q, must be %q", turns, got, told)
	}
	wantAll(t, m, behind)
}

// changed are ranges in the midst of which something is done: what is there, what is done turn by turn, what Walk tells, and what there is
// behind it. All tells what was there, each time.
var changed = []struct {
	start        string
	turns        []string
	walk, behind string
}{
	{"", []string{"1=a"}, "", ""},
	{"1=a 2=b 3=c", nil, "1=a 2=b 3=c", "1=a 2=b 3=c"},
	{"1=a 2=b 3=c", []string{"?1 ?2 ?3 ?4", "?1 ?2 ?3 ?4"}, "1=a 2=b 3=c", "1=a 2=b 3=c"},
	// the key that is told
	{"1=a 2=b 3=c", []string{"1=x"}, "1=a 2=b 3=c", "1=x 2=b 3=c"},
	{"1=a 2=b 3=c", []string{"~1"}, "1=a 2=b 3=c", "2=b 3=c"},
	{"1=a 2=b 3=c", []string{"~1", "~2", "~3"}, "1=a 2=b 3=c", ""},
	{"1=a 2=b 3=c", []string{"", "~2"}, "1=a 2=b 3=c", "1=a 3=c"},
	{"1=a 2=b 3=c", []string{"", "", "~3"}, "1=a 2=b 3=c", "1=a 2=b"},
	{"1=a 2=b 3=c", []string{"~1 1=x"}, "1=a 2=b 3=c", "2=b 3=c 1=x"},
	{"1=a 2=b 3=c", []string{"~1 1=x", "~2 2=y", "~3 3=z"}, "1=a 2=b 3=c", "1=x 2=y 3=z"},
	{"1=a 2=b 3=c", []string{"", "", "~3 3=z"}, "1=a 2=b 3=c", "1=a 2=b 3=z"},
	// one that was told
	{"1=a 2=b 3=c", []string{"", "1=x"}, "1=a 2=b 3=c", "1=x 2=b 3=c"},
	{"1=a 2=b 3=c", []string{"", "~1"}, "1=a 2=b 3=c", "2=b 3=c"},
	{"1=a 2=b 3=c", []string{"", "~1 1=x"}, "1=a 2=b 3=c", "2=b 3=c 1=x"},
	{"1=a 2=b 3=c", []string{"", "~1 1=x", "~1 1=y ~1 1=z"}, "1=a 2=b 3=c", "2=b 3=c 1=z"},
	// one that comes later
	{"1=a 2=b 3=c", []string{"2=x"}, "1=a 2=x 3=c", "1=a 2=x 3=c"},
	{"1=a 2=b 3=c", []string{"2=x 2=y", "3=z"}, "1=a 2=y 3=z", "1=a 2=y 3=z"},
	{"1=a 2=b 3=c", []string{"~2"}, "1=a 3=c", "1=a 3=c"},
	{"1=a 2=b 3=c", []string{"~3"}, "1=a 2=b", "1=a 2=b"},
	{"1=a 2=b 3=c", []string{"~2 2=x"}, "1=a 2=x 3=c", "1=a 3=c 2=x"},
	{"1=a 2=b 3=c", []string{"~2 2=x ~2 2=y ~2 2=z"}, "1=a 2=z 3=c", "1=a 3=c 2=z"},
	{"1=a 2=b 3=c", []string{"~2 2=x ~2"}, "1=a 3=c", "1=a 3=c"},
	{"1=a 2=b 3=c", []string{"~2", "2=x"}, "1=a 3=c", "1=a 3=c 2=x"},
	{"1=a 2=b 3=c 4=d", []string{"~3", "3=x"}, "1=a 2=b 3=x 4=d", "1=a 2=b 4=d 3=x"},
	{"1=a 2=b 3=c 4=d", []string{"~3 3=x", "~3", "3=y"}, "1=a 2=b 4=d", "1=a 2=b 4=d 3=y"},
	{"1=a 2=b 3=c 4=d", []string{"~4 ~3 ~2 4=x 3=y 2=z"}, "1=a 2=z 3=y 4=x", "1=a 4=x 3=y 2=z"},
	{"1=a 2=b 3=c", []string{"~2 2=x", "~2 2=y", "~2 2=z"}, "1=a 2=x 3=c", "1=a 3=c 2=z"},
	{"1=a 2=b 3=c", []string{"~3 3=x 3=y"}, "1=a 2=b 3=y", "1=a 2=b 3=y"},
	// new keys
	{"1=a 2=b", []string{"3=c", "4=d"}, "1=a 2=b", "1=a 2=b 3=c 4=d"},
	{"1=a 2=b", []string{"3=c ~3 3=d"}, "1=a 2=b", "1=a 2=b 3=d"},
	{"1=a", []string{"2=b"}, "1=a", "1=a 2=b"},
	{"1=a 2=b", []string{"~2 3=c", "3=d"}, "1=a", "1=a 3=c"},
	// all of them
	{"1=a 2=b 3=c", []string{"~1 ~2 ~3"}, "1=a", ""},
	{"1=a 2=b 3=c", []string{"~3 ~2 ~1 3=z 2=y 1=x"}, "1=a 2=y 3=z", "3=z 2=y 1=x"},
	{"1=a 2=b 3=c", []string{"~1 ~2 ~3 4=d"}, "1=a", "4=d"},
	// the key as it is then
	{"1=a 0.0=b", []string{"-0.0=x"}, "1=a 0.0=x", "1=a 0.0=x"},
	{"1=a 0.0=b 2=c", []string{"~0.0 -0.0=x"}, "1=a -0.0=x 2=c", "1=a 2=c -0.0=x"},
	{"1=a -0.0=b 2=c", []string{"~0.0 0.0=x"}, "1=a 0.0=x 2=c", "1=a 2=c 0.0=x"},
	{"0.0=a 1=b", []string{"~-0.0 -0.0=x"}, "0.0=a 1=b", "1=b -0.0=x"},
	{"1=a {1,0.0}=b", []string{"~{1,-0.0} {1,-0.0}=x"}, "1=a T{1, -0.0}=x", "1=a T{1, -0.0}=x"},
	{"1=a nil=b", []string{"~nil nil=c"}, "1=a nil=c", "1=a nil=c"},
	{"nil=a 1=b", []string{"~nil ~1"}, "nil=a", ""},
	// keys that are not equal to themselves
	{"nan=a nan=b", []string{"nan=c ~nan", "nan=d"}, "NaN=a NaN=b", "NaN=a NaN=b NaN=c NaN=d"},
	{"1=a nan=b 2=c nan=d", []string{"~1 ~2 ~nan nan=e 2=f ~2"}, "1=a NaN=b NaN=d", "NaN=b NaN=d NaN=e"},
	{"1=a {nan,list}=b {1,nan}=c 2=d", []string{"~{nan,list} {nan,list}=x ~2"}, "1=a T{NaN, list@1 0 1 1 []}=b T{1, NaN}=c", "1=a T{NaN, list@1 0 1 1 []}=b T{1, NaN}=c T{NaN, list@1 0 1 1 []}=x"},
}

func TestChangedMeanwhile(t *testing.T) {
	for _, c := range changed {
		m := filled(t, c.start)
		wantRange(t, m, m.Walk(), c.turns, c.walk, c.behind)
		m = filled(t, c.start)
		was := over(m.All())
		if got := ranged(t, m, m.All(), c.turns); got != was {
			t.Errorf("M4: with %q told is %q, must be %q", c.turns, got, was)
		}
	}
}

// A range begins when one goes over it, not when it is asked for; gone over again, it begins anew.
func TestBegun(t *testing.T) {
	m := keyed.New()
	both := []iter.Seq2[api.Datum, api.Datum]{m.All(), m.Walk()}
	for _, c := range []struct{ done, want string }{
		{"", ""}, {"1=a 2=b", "1=a 2=b"}, {"3=c ~1", "2=b 3=c"}, {"2=x 1=d nan=e", "2=x 3=c 1=d NaN=e"}, {"~1 ~2 ~3", "NaN=e"},
	} {
		do(t, m, c.done)
		for _, seq := range both {
			for range 2 {
				if got := over(seq); got != c.want {
					t.Errorf("M6: behind %q: %q, must be %q", c.done, got, c.want)
				}
			}
		}
	}
}

func TestLeftEarly(t *testing.T) {
	m := filled(t, "1=a 2=b 3=c")
	for _, seq := range []iter.Seq2[api.Datum, api.Datum]{m.All(), m.Walk()} {
		for most := range 4 {
			n := 0
			for k := range seq {
				if n++; k.N != n {
					t.Errorf("M6: %s in turn %d", short(k), n)
				}
				if n > most {
					break
				}
			}
			if n != min(most+1, 3) {
				t.Errorf("M6: %d turns", n)
			}
		}
		// what is asked again behind a no is told nothing of
		calls := 0
		seq(func(api.Datum, api.Datum) bool { calls++; return false })
		if calls != 1 {
			t.Errorf("M6: %d calls behind a no", calls)
		}
		if got := over(seq); got != "1=a 2=b 3=c" {
			t.Errorf("M6: %s", got)
		}
	}
	for range m.Walk() {
		do(t, m, "~1 ~2 2=x 4=y")
		break
	}
	wantAll(t, m, "3=c 2=x 4=y")
}

// A range that is left by a panic of who goes over it leaves the map as it is.
func TestLeftByPanic(t *testing.T) {
	m := filled(t, "1=a 2=b 3=c")
	for _, seq := range []iter.Seq2[api.Datum, api.Datum]{m.All(), m.Walk()} {
		func() {
			defer func() {
				if recover() != "out" {
					t.Error("M6: another panic")
				}
			}()
			for range seq {
				do(t, m, "2=x")
				panic("out")
			}
		}()
		wantAll(t, m, "1=a 2=x 3=c")
	}
}

func TestWithinOneAnother(t *testing.T) {
	m := filled(t, "1=a 2=b 3=c")
	seqs := []iter.Seq2[api.Datum, api.Datum]{m.All(), m.Walk()}
	for _, outer := range seqs {
		for _, inner := range seqs {
			var out []string
			for k, v := range outer {
				out = append(out, shortPair(k, v)+":", over(inner))
				for range inner {
					break
				}
			}
			if got := strings.Join(out, " "); got != "1=a: 1=a 2=b 3=c 2=b: 1=a 2=b 3=c 3=c: 1=a 2=b 3=c" {
				t.Errorf("M6: %s", got)
			}
		}
	}
}

// Each of those within one another goes over what there was when it began.
func TestWithinOneAnotherChanged(t *testing.T) {
	for _, c := range []struct {
		outer, inner func(m *keyed.Map) iter.Seq2[api.Datum, api.Datum]
		want         string
	}{
		{(*keyed.Map).All, (*keyed.Map).All, "1=a: 1=a 2=b 3=c 2=b: 1=a 3=c 2=x 3=c: 1=a 3=c 2=x"},
		{(*keyed.Map).All, (*keyed.Map).Walk, "1=a: 1=a 2=x 3=c 2=b: 1=a 3=c 2=x 3=c: 1=a 3=c 2=x"},
		{(*keyed.Map).Walk, (*keyed.Map).All, "1=a: 1=a 2=b 3=c 2=x: 1=a 3=c 2=x 3=c: 1=a 3=c 2=x"},
		{(*keyed.Map).Walk, (*keyed.Map).Walk, "1=a: 1=a 2=x 3=c 2=x: 1=a 3=c 2=x 3=c: 1=a 3=c 2=x"},
	} {
		m := filled(t, "1=a 2=b 3=c")
		var out []string
		for k, v := range c.outer(m) {
			out = append(out, shortPair(k, v)+":", ranged(t, m, c.inner(m), []string{"~2 2=x"}))
		}
		if got := strings.Join(out, " "); got != c.want {
			t.Errorf("M6: %s, must be %s", got, c.want)
		}
	}
	// one range, within itself, over a map that empties
	m := filled(t, "1=a 2=b 3=c 4=d")
	walk := m.Walk()
	var out []string
	for k := range walk {
		for inner := range walk {
			out = append(out, short(k)+short(inner))
			drop(t, m, inner, true)
		}
	}
	if got := strings.Join(out, " "); got != "11 12 13 14" || m.Len() != 0 {
		t.Errorf("M6: %s; %d", got, m.Len())
	}
}

// Ranges beside one another, a step of this one and a step of that one.
func TestBesideOneAnother(t *testing.T) {
	m := filled(t, "1=a 2=b 3=c")
	var out []string
	step := func(next func() (api.Datum, api.Datum, bool)) {
		if k, v, is := next(); is {
			out = append(out, shortPair(k, v))
		} else {
			out = append(out, "-")
		}
	}
	all, stopAll := iter.Pull2(m.All())
	walk, stopWalk := iter.Pull2(m.Walk())
	defer stopAll()
	defer stopWalk()
	do(t, m, "4=d") // none of them has begun
	step(all)
	do(t, m, "~1 1=x")
	step(walk)
	do(t, m, "~3 3=y ~1 5=e")
	late, stopLate := iter.Pull2(m.Walk())
	step(late)
	for range 5 {
		step(all)
		step(walk)
	}
	stopLate()
	step(late)
	if got := strings.Join(out, " "); got != "1=a 2=b 2=b 2=b 3=y 3=c 4=d 4=d - - - - - -" {
		t.Errorf("M6: %s", got)
	}
	wantAll(t, m, "2=b 4=d 3=y 5=e")
}
