package machine_test

import (
	"errors"
	"fmt"
	"strings"
	"testing"

	"guise/api"
	"guise/code"
	"guise/compile"
	"guise/machine"
	"guise/parse"
	"guise/peep"
	"guise/walk"
)

// writtenProgram is a program's text by chance; false: it may not be.
func writtenProgram(t testing.TB, seed uint64) (string, bool) {
	t.Helper()
	s := writing(seed).program()
	n, err := parse.Program(s)
	if err != nil {
		if !errors.Is(err, api.ErrDeep) {
			t.Fatalf("no program: %v\n%s", err, s)
		}
		return s, false
	}
	var w *api.Wrong
	_, err = walk.Run(n, 0, 1)
	return s, !errors.As(err, &w)
}

// Texts by chance: played as walk plays them, whatever the fuel and the depth are, in pieces; collected, saved and loaded between; and made shorter.
func TestTextsByChance(t *testing.T) {
	t.Parallel()
	for part := range uint64(6) {
		t.Run(fmt.Sprint(part), func(t *testing.T) {
			t.Parallel()
			r := dice(700 + part)
			for seed := range uint64(20) {
				s, may := writtenProgram(t, 1000*part+seed)
				if !may {
					continue
				}
				whole := asWalk(t, s, 500, 12, piecesOf(r)...)
				asWalk(t, s, r.IntN(whole.last().Steps+2), 1+r.IntN(12), piecesOf(r)...)
				asWalk(t, s, r.IntN(whole.last().Steps+2), 1+r.IntN(4), 1)
				shorterAlike(t, s, 1+r.IntN(12), piecesOf(r)...)
			}
		})
	}
}

// shorterAlike: code that was made shorter does what it did.
func shorterAlike(t testing.TB, s string, depth int, pieces ...int) {
	t.Helper()
	p, table := compiled(t, s)
	q, err := peep.Program(p)
	if err != nil {
		t.Fatal(err)
	}
	must, got := ran(t, p, table, depth, counted(t), pieces...), ran(t, q, table, depth, counted(t), pieces...)
	if !got.same(must) {
		t.Fatalf("T2: %s\n%s", difference(got.String(), must.String()), brief(s))
	}
}

// Grown code that was made shorter does what it did, too.
func TestShorterByChance(t *testing.T) {
	t.Parallel()
	table, r := tableOf(t, world), dice(15)
	for range 150 {
		p := grown(r)
		q, err := peep.Program(p)
		if err != nil {
			t.Fatal(err)
		}
		pieces := piecesOf(r)
		must, got := ran(t, p, table, 9, nothingBetween, pieces...), ran(t, q, table, 9, nothingBetween, pieces...)
		if !got.same(must) {
			t.Fatalf("T2: %s\n%s", difference(got.String(), must.String()), brief(written(p)))
		}
	}
}

// A type that is called as a kind is; a fault that says more than a text may have: as walk has them.
func TestWhatTheHeapHasNot(t *testing.T) {
	var many strings.Builder
	for range 14000 {
		many.WriteString(", []")
	}
	for _, s := range []string{
		"type pointer struct { x }\nfunc (p *pointer) set(n) { p.x = n; return p }\nfunc main() { p := &pointer{x: 1}; q := p.set(2); print(p == q, *p, p, typeof(p), map{*p: 1, p: 2}, nil(*pointer)); x, ok := p.(*pointer); print(x, ok); p.x.y = 1 }",
		"type pointer = int\nfunc main() { p := pointer(1); print(p, p == pointer(1), p + pointer(2), map{p: p}); switch v := p.(type) { case pointer: print(v) }; p += 1 }",
		"type pointer = list\nfunc main() { p := pointer([1]); p = append(p, 2); print(p, p[0], len(p)); print(p == p) }",
		"func main() { defer func() { r := recover(); print(len(r.more), typeof(r.more)); s := r.more + \"a\" }(); append(1" + many.String() + ") }",
		"func main() { defer func() { r := recover(); m := map{r.more: 1}; print(len(m), r.more[3]); print(r.more) }(); append(1" + many.String() + ") }",
		"func main() { append(1" + many.String() + ") }",
	} {
		asWalk(t, s, 100, 5)
		asWalk(t, s, 100, 5, 1)
	}
}

// Code that is too much for compile is told as it tells it.
func TestTextOfTooMuchCode(t *testing.T) {
	s := "func main() { switch 1 { case 2" + strings.Repeat(",2", 17000) + ": } }"
	if _, err := machine.Text(s, 10, 10); told(err) != "22 0" {
		t.Errorf("P16.6: %s", told(err))
	}
}

// The same texts with all fuels, to their ends.
func TestEachFuel(t *testing.T) {
	t.Parallel()
	for _, s := range playable()[1:] {
		n := parsed(t, s)
		for fuel := 0; ; fuel++ {
			o, err := walk.Run(n, fuel, 8)
			is(t, "P16.6: "+s, ended(machine.Text(s, fuel, 8)), ended(o, err))
			if o.End != api.Spent {
				break
			}
		}
	}
}

func FuzzText(f *testing.F) {
	for _, s := range append(playable(), "func main() { }", textWorld+"func main() { f := func() { g0++ }; f() }") {
		f.Add(s, uint8(50), uint8(5), uint8(3))
	}
	f.Fuzz(func(t *testing.T, s string, fuel, depth, piece uint8) {
		p, err := compile.Text(s)
		_, terr := machine.Text(s, int(fuel), 1+int(depth))
		if err != nil {
			if told(terr) != told(err) {
				t.Errorf("P16.2: %s; must be %s", told(terr), told(err))
			}
			return
		}
		if code.Right(p) == nil {
			asWalk(t, s, int(fuel), 1+int(depth), 1+int(piece), 0, 2)
		}
	})
}
