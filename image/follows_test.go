package image_test

import (
	"fmt"
	"strings"
	"testing"

	"guise/api"
	"guise/image"
	"guise/machine"
)

// twins are two machines of one program: the one is never kept, the other is kept between.
type twins struct {
	s           string
	never, kept *machine.Machine
	a, b        []api.Event
}

func newTwins(t testing.TB, s string, depth int) *twins {
	t.Helper()
	w := &twins{s: s, never: made(t, s, depth), kept: made(t, s, depth)}
	w.watch()
	return w
}

func (w *twins) watch() {
	w.never.Watch(func(e api.Event) { w.a = append(w.a, e) })
	w.kept.Watch(func(e api.Event) { w.b = append(w.b, e) })
}

// keep saves and loads the one; Save of what was loaded is the bytes again.
func (w *twins) keep(t testing.TB) {
	t.Helper()
	b := saved(t, w.kept, w.s)
	w.kept = loaded(t, b, w.s)
	is(t, "P19.5: Save again", saved(t, w.kept, w.s), b)
	is(t, "P19.5: Save of the one that was not kept", saved(t, w.never, w.s), b)
	w.watch()
}

// run lets both go on: what is answered, and told to whoever watches, must be the same.
func (w *twins) run(t testing.TB, fuel int) api.Outcome {
	t.Helper()
	w.a, w.b = nil, nil
	o, err := w.never.Run(fuel)
	is(t, "P19.5, T7: Run", ended(w.kept.Run(fuel)), ended(o, err))
	is(t, "P19.5, T7: what is told", fmt.Sprint(w.b), fmt.Sprint(w.a))
	w.alike(t)
	return o
}

func (w *twins) alike(t testing.TB) {
	t.Helper()
	if w.never.Over() != w.kept.Over() || w.never.Things() != w.kept.Things() {
		t.Fatalf("P19.5: %v, %d things; must be %v, %d: %s", w.kept.Over(), w.kept.Things(), w.never.Over(), w.never.Things(), brief(w.s))
	}
}

func (w *twins) collect(t testing.TB) {
	t.Helper()
	if a, b := w.never.Collect(), w.kept.Collect(); a != b {
		t.Fatalf("P19.5, T6: %d are forgotten; must be %d: %s", b, a, brief(w.s))
	}
	w.alike(t)
}

// At each step: what is loaded goes on the same.
func TestKeptAtEachStep(t *testing.T) {
	t.Parallel()
	ends := map[int]int{}
	for _, s := range playable() {
		w := newTwins(t, s, 9)
		w.keep(t)
		for step := 0; step < 2000 && !w.never.Over(); step++ {
			w.run(t, 1)
			w.keep(t)
		}
		w.run(t, api.MaxFuel)
		w.keep(t)
		ends[w.run(t, 5).End]++
		w.collect(t)
		w.keep(t)
	}
	if ends[api.Done] == 0 || ends[api.Panic] == 0 || ends[api.Overflow] == 0 || ends[api.Full] == 0 {
		t.Errorf("the runs end in too few ways: %v", ends)
	}
}

// In pieces of fuel, of nothing too; with collections between, at each depth.
func TestKeptInPieces(t *testing.T) {
	t.Parallel()
	for _, s := range playable() {
		for _, pieces := range [][]int{{0, 3}, {7, 1, 2}, {20, 0}, {100}} {
			for _, depth := range []int{1, 3, 6} {
				w := newTwins(t, s, depth)
				for i := 0; i < 60 && !w.never.Over(); i++ {
					w.run(t, pieces[i%len(pieces)])
					if i%3 == 1 {
						w.collect(t)
					}
					w.keep(t)
					if i%5 == 2 {
						w.collect(t)
					}
				}
				w.keep(t)
				w.run(t, api.MaxFuel)
			}
		}
	}
}

// Where a run stands, in its midst: it is kept there, too.
func TestKeptInTheMidst(t *testing.T) {
	for what, s := range map[string]string{
		"within calls":                       "func f(n) { if n > 0 { f(n - 1) }; for { n++ } }\nfunc main() { f(8) }",
		"within a laid down call":            "func main() { defer func() { for { } }(); return }",
		"within one, while panicking":        "func main() { defer func() { for i in 1000 { }; print(recover()) }(); panic([1]) }",
		"behind a recover":                   "func f() { defer func() { recover(); for i in 1000 { } }(); panic(1) }\nfunc main() { print(f()) }",
		"while panicking behind a return":    "func f() { defer func() { for i in 1000 { } }(); defer func() { panic(2) }(); return [1] }\nfunc main() { defer func() { print(recover()) }(); f() }",
		"in the program's beginning":         "var x = func() { for i in 1000 { }; return i() }()\nfunc i() { return x }\nfunc main() { print(x) }",
		"within a method that is bound":      "type T struct { a }\nfunc (t *T) m() { for i in 1000 { t.a = i } }\nfunc main() { t := &T{}; f := t.m; f(); print(t) }",
		"within an expression's call":        "type T struct { a }\nfunc (t T) m() { for i in 1000 { t.a = i }; return t }\nfunc main() { print(T.m(T{a: 1})) }",
		"with places and turns on the stack": "func f(l) { for i in 1000 { l[0] = i }; return 5 }\nfunc main() { l := [1]; m := map{1: l}; for k, v in m { for c in \"ab\" { l[0] += f(v) } }; print(l, m) }",
	} {
		w := newTwins(t, s, 50)
		w.run(t, 40)
		if w.never.Over() {
			t.Fatalf("%s: it is over", what)
		}
		w.keep(t)
		w.collect(t)
		w.run(t, 37)
		w.keep(t)
		w.run(t, 5000)
	}
}

// The depth that a machine has is kept: none, one and all of it is taken.
func TestKeptDepth(t *testing.T) {
	s := "func f(n) { print(n); f(n + 1) }\nfunc main() { f(0) }"
	for _, depth := range []int{1, 2, 3, 999, api.MaxDepth} {
		must := ended(made(t, s, depth).Run(9999))
		for _, pieces := range [][]int{{}, {1}, {3}, {9999}} {
			m := loaded(t, saved(t, made(t, s, depth, pieces...), s), s)
			is(t, fmt.Sprint("P19.5: the depth ", depth), ended(m.Run(9999)), must)
		}
	}
}

// A run that is over is kept with all that it answered, the panic and its cause too.
func TestKeptOver(t *testing.T) {
	for s, must := range map[string]string{
		"func main() { print(1, \"a\") }":                                     "done 2 | 1 a",
		"func main() { print(1); panic([1, \"a\"]) }":                         "panic 3 | 1 ! [1, \"a\"]",
		"func main() { x := 1 / 0 }":                                          "panic 2 ! &fault{word: \"divide\", more: \"\"} of divide ",
		"func main() { x := \"a\"; y := x.(int) }":                            "panic 3 ! &fault{word: \"conversion\", more: \"text is not int\"} of conversion text is not int",
		"func main() { print(1); main() }":                                    "overflow 13 | 1 | 1 | 1 | 1",
		"func main() { l := map{}; for { l[1] = make(65536); print(\"\") } }": "",
	} {
		m := made(t, s, 4)
		o, err := m.Run(999)
		if !m.Over() {
			t.Fatalf("it is not over: %s", s)
		}
		if must == "" {
			must = ended(o, err)
		}
		is(t, "the run", ended(o, err), must)
		again := loaded(t, saved(t, m, s), s)
		if !again.Over() || again.Things() != m.Things() {
			t.Errorf("P19.5: %s: over: %v, %d things; must be %d", s, again.Over(), again.Things(), m.Things())
		}
		for _, fuel := range []int{0, 1, 999} {
			is(t, "P19.5: a run that is over", ended(again.Run(fuel)), must)
		}
		is(t, "P19.5: Save of it", saved(t, again, s), saved(t, m, s))
		if a, b := m.Collect(), again.Collect(); a != b || m.Things() != again.Things() {
			t.Errorf("P19.5: %s: %d are forgotten; must be %d", s, b, a)
		}
		is(t, "P19.5: Save behind Collect", saved(t, again, s), saved(t, m, s))
	}
}

// Nobody watches what was loaded.
func TestLoadedIsNotWatched(t *testing.T) {
	s := "func main() { for i in 9 { print(i) } }"
	m := made(t, s, 5)
	told := 0
	m.Watch(func(api.Event) { told++ })
	m.Run(3)
	before := told
	again := loaded(t, saved(t, m, s), s)
	again.Run(99)
	if told != before || before == 0 {
		t.Errorf("P19.3: %d events were told; must be %d", told, before)
	}
}

// Whoever watches may save the machine: it is kept as it stands there.
func TestSavedWhileWatched(t *testing.T) {
	for _, s := range playable() {
		must := ended(made(t, s, 9).Run(900))
		m := made(t, s, 9)
		var kept []string
		m.Watch(func(api.Event) {
			if len(kept) < 150 && !m.Over() {
				kept = append(kept, saved(t, m, s))
			}
		})
		is(t, "P19.1: m goes on", ended(m.Run(900)), must)
		for _, b := range kept {
			again := loaded(t, b, s)
			o, err := again.Run(0)
			if o.End == api.Spent {
				o, err = again.Run(900 - o.Steps)
			}
			is(t, "P19.5: what was saved within", ended(o, err), must)
		}
	}
}

// What is done to the one machine is not seen at the other: the saved one, the loaded one, and another one that was loaded of the same bytes.
func TestKnowNothingOfOneAnother(t *testing.T) {
	t.Parallel()
	for _, s := range playable() {
		must := ended(made(t, s, 9).Run(800))
		m := made(t, s, 9)
		for !m.Over() {
			b := saved(t, m, s)
			own := ownBytes(t, m)
			one, two := loaded(t, b, s), loaded(t, b, s)
			one.Watch(func(api.Event) { two.Things() })
			o, _ := one.Run(0)
			is(t, "P19.7: the loaded one", ended(one.Run(800-min(800, o.Steps))), must)
			one.Collect()
			is(t, "P19.7: the saved one", ownBytes(t, m), own)
			is(t, "P19.7: the other one", ownBytes(t, two), own)
			o, _ = m.Run(11)
			if m.Collect(); o.Steps >= 800 {
				break
			}
			is(t, "P19.7: the other one", ownBytes(t, two), own)
			is(t, "P19.7: the bytes", saved(t, two, s), b)
		}
	}
}

// There and back: each image that is taken is what Save says of what was loaded.
func TestThereAndBack(t *testing.T) {
	for _, s := range playable() {
		for _, fuel := range []int{0, 1, 17, 900} {
			b := saved(t, made(t, s, 9, fuel), s)
			m, source, err := image.Load(b)
			if err != nil {
				t.Fatalf("P19.3: %s", told(err))
			}
			is(t, "T10", saved(t, m, source), b)
			is(t, "P19.2: Check is Load's source", strings.Clone(source), s)
		}
	}
}
