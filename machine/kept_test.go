package machine_test

import (
	"fmt"
	"math/rand/v2"
	"strings"
	"testing"

	"guise/api"
	"guise/code"
	"guise/machine"
	"guise/types"
)

// keeping is a program that has things of each kind, on stacks and in variables, at many of its steps.
const keeping = `
type T struct { x; y }
type E struct { .T; z }
type Q struct { .*T; .S; w }
type K = int
type L = list
type pointer struct { p }
protocol S { sum(0) }
func (t T) sum() { return t.x }
func (t *T) add(n) { t.x = n; return t }
func (k K) sum() { return int(k) + 1 }
func (p pointer) get() { return p.p }
var g = [1, 2.5, "text", nil, true, K(3), L([4])]
var h = map{1: "a", 2.5: [1], "k": nil, nil(*T): 7, T{x: 1}: T{y: 2}}
var e = &E{z: 5}
func caught() { r := recover(); print("caught", r); return r }
func deep(n) { defer caught(); if n == 0 { panic(K(7)) }; return deep(n - 1) }
func main() {
	l := []
	for i, v in g { l = append(l, func() { i += 1; return [i, v] }) }
	for k, v in h { print(k, v); h[k] = l; delete(h, 2.5) }
	for c in "ab" { for j in 2 { print(c, j) } }
	b := e.add
	x := (*T).add
	print(b(3), x(e.add(1), 4))
	print(deep(2))
	r := &pointer{p: l}
	m := map{r: *r, r: r.get}
	m[r] = m
	z := &Q{T: b(9), S: K(4)}
	z.x += z.S.sum()
	z.T.y = z
	for a, c in m { a.p[0] = c; print(z.T.x, typeof(m[r]), r.get()[1]()) }
}
`

// playable are programs that do much of what can be done.
func playable() []string {
	return []string{
		keeping,
		"func main() { defer print(1); defer func(a) { print(a, recover()) }([2]); l := [1]; for i in l { for k, v in map{1: l, 2: [3]} { defer print(k, v); l[5] = 1 } } }",
		"type T struct { a; b }\nfunc main() { t := &T{a: T{}}; t.a.b = 5; t.a.a = f(t); print(t) }\nfunc f(p) { p.b = [p]; for i in 3 { p.b[0] = i }; return p }",
		"var n = 0\nfunc f(k) { n += k; defer func() { recover(); n -= k; if k > 0 { f(k - 1) } }(); panic(n) }\nfunc main() { f(4); print(n) }",
		"func main() { e := func() { defer func() { panic([recover()]) }(); panic(1) }; e() }",
		"type E struct { .P }\nprotocol P { f(0) }\ntype D struct { }\nfunc (d D) f() { return \"d\" }\nfunc main() { e := &E{P: E{P: D{}}}; g := e.f; h := E.f; print(g(), h(*e)); e.P = e; h(*e) }",
		"func main() { x := &fault{word: [1], more: \"m\"}; y := x.Error; print(y()); panic(x) }",
	}
}

// At each point between: what is loaded goes on the same, and says the same; in whatever pieces.
func TestKeptAtEachStep(t *testing.T) {
	t.Parallel()
	for _, s := range playable() {
		whole := asWalk(t, s, 2000, 20)
		steps := whole.last().Steps
		asWalk(t, s, 2000, 20, 1)
		asWalk(t, s, 2000, 20, 0, 3)
		asWalk(t, s, 2000, 20, 7, 1, 2)
		for fuel := range min(steps+2, 60) {
			asWalk(t, s, fuel, 4, 2)
		}
		for depth := 1; depth < 6; depth++ {
			asWalk(t, s, steps+1, depth, 5)
		}
	}
}

// A machine that has not begun, one that is over, one with the greatest depth.
func TestKeptAheadAndBehind(t *testing.T) {
	p, table := compiled(t, "var g = [1]\nfunc main() { print(g); main() }")
	for _, depth := range []int{1, 3, 1000} {
		must := ended(made(t, p, table, depth).Run(9999))
		m := loaded(t, saved(t, made(t, p, table, depth)), p, table)
		is(t, "P16.4: the depth", ended(m.Run(9999)), must)
		over := loaded(t, saved(t, m), p, table)
		is(t, "P16.4: one that is over", ended(over.Run(0)), must)
		if !over.Over() || over.Things() != m.Things() || over.Collect() != m.Collect() {
			t.Error("P16.4: one that is over is another one")
		}
	}
	for _, s := range []string{"func main() { panic([1]) }", "func main() { panic(&fault{word: 1, more: [2]}) }", "func main() { x := 1 / 0 }", "func main() { for { x := make(65536) } }"} {
		p, table := compiled(t, s)
		m := made(t, p, table, 3)
		must := ended(m.Run(999))
		again := loaded(t, saved(t, m), p, table)
		is(t, "P16.4: "+s, ended(again.Run(999)), must)
		_, a := m.Run(1)
		_, b := again.Run(1)
		is(t, "P16.4: the panic", (story{err: b}).panicText(), (story{err: a}).panicText())
	}
}

// Nobody watches what was loaded.
func TestLoadedIsNotWatched(t *testing.T) {
	p := begins("step; step; nil; return")
	m := made(t, p, noTypes(), 1)
	told := 0
	m.Watch(func(api.Event) { told++ })
	m.Run(1)
	loaded(t, saved(t, m), p, noTypes()).Run(9)
	if told != 1 {
		t.Errorf("P16.4: %d events were told", told)
	}
}

// points is what Save says of a machine at each of some points.
func points(t testing.TB, p code.Program, table *types.Table, depth int, pieces ...int) []string {
	m := made(t, p, table, depth)
	out := []string{saved(t, m)}
	for _, fuel := range pieces {
		m.Run(fuel)
		out = append(out, saved(t, m))
	}
	return out
}

// wantNoImage: Load refuses bytes by ErrImage, new each time.
func wantNoImage(t testing.TB, what, b string, p code.Program, table *types.Table) {
	t.Helper()
	m, err := machine.Load(b, p, table)
	_, again := machine.Load(b, p, table)
	if told(err) != "190 0" || m != nil || err == again {
		t.Fatalf("P16.4: %s: %s, a machine: %v", what, told(err), m != nil)
	}
}

// Bytes that are cut anywhere, that have more behind or ahead of them, of which one is another one.
func TestBytesThatAreWrong(t *testing.T) {
	t.Parallel()
	s := playable()[1]
	p, table := compiled(t, s)
	for _, b := range points(t, p, table, 5, 1, 3, 4, 999) {
		for n := range len(b) {
			wantNoImage(t, "cut", b[:n], p, table)
			wantNoImage(t, "cut ahead", b[n+1:], p, table)
		}
		for _, more := range []string{"x", "\x00", b, b[len(b)-4:]} {
			wantNoImage(t, "more behind it", b+more, p, table)
			wantNoImage(t, "more ahead of it", more+b, p, table)
		}
		for i := range len(b) {
			for _, by := range []byte{1, 2, 128, 255, byte(i)} {
				if by != 0 {
					wantNoImage(t, "another byte", b[:i]+string([]byte{b[i] ^ by})+b[i+1:], p, table)
				}
			}
		}
	}
	for _, b := range []string{"", "x", "GM01", strings.Repeat("\x00", 100), strings.Repeat("a", api.MaxImage), strings.Repeat("a", api.MaxImage+1), s} {
		wantNoImage(t, "other bytes", b, p, table)
	}
}

// What another program's machine said; of the same code with other places, too.
func TestBytesOfAnotherProgram(t *testing.T) {
	p, table := compiled(t, playable()[1])
	q := apart(p)
	q.Funcs[1].Code[0].At++
	r := apart(p)
	r.Globals = append(r.Globals, "more")
	other, otherTable := compiled(t, playable()[3])
	for _, b := range points(t, p, table, 5, 1, 3, 4, 999) {
		wantNoImage(t, "another place", b, q, table)
		wantNoImage(t, "a variable more", b, r, table)
		wantNoImage(t, "another program", b, other, otherTable)
		loaded(t, b, apart(p), tableOf(t, playable()[1]))
	}
}

// Load says what New says first.
func TestLoadSaysWhatNewSays(t *testing.T) {
	for _, b := range []string{"", saved(t, made(t, begins("nil; return"), noTypes(), 1))} {
		for _, c := range []struct{ code, must string }{{"return", "130 0 0"}, {"struct 0 'T'; return", "130 0 0"}} {
			m, err := machine.Load(b, begins(c.code), noTypes())
			if told(err) != c.must || m != nil {
				t.Errorf("P16.4: %s; must be %s", told(err), c.must)
			}
		}
		if m, err := machine.Load(b, begins("nil; return"), tableOf(t, "type T struct { a }\nfunc (t T) m() { }")); told(err) != "130 0 T.m" || m != nil {
			t.Errorf("P16.4: %s", told(err))
		}
	}
}

// The same code over another table: what fits with that is taken, what does not is refused.
func TestBytesOfAnotherTable(t *testing.T) {
	p := begins("int '1'; struct 1 'T x'; storeglobal 0; step; global 0; built 1 'print'; return")
	table := tableOf(t, "type T struct { x; y }")
	m := made(t, p, table, 1)
	m.Run(0)
	b := saved(t, m)
	for text, must := range map[string]string{
		"type T struct { x; y }":                        "done 1 | T{x: 1, y: nil}",
		"type U struct { x }\ntype T struct { x; y }":   "done 1 | T{x: 1, y: nil}",
		"type T struct { x; z }":                        "done 1 | T{x: 1, z: nil}",
		"type T struct { x }":                           "refused",
		"type T struct { x; y; z }":                     "refused",
		"type T struct { x; .U }\ntype U struct { a }":  "refused",
		"type T struct { x; .*U }\ntype U struct { a }": "refused",
		"type T struct { x; .U }\nprotocol U { a(0) }":  "done 1 | T{x: 1, U: nil}",
	} {
		other := tableOf(t, text)
		if must == "refused" {
			wantNoImage(t, text, b, p, other)
			continue
		}
		is(t, "P16.4: "+text, ended(loaded(t, b, p, other).Run(5)), must)
	}
}

// More than a saved run may have; and as much as there is room for.
func TestTooManyBytes(t *testing.T) {
	var lines []string
	for i := range 130 {
		lines = append(lines, fmt.Sprintf("text '%s%d'", strings.Repeat("x", 65000), i))
	}
	p := begins(strings.Join(lines, "; ") + "; list 130; storeglobal 0; step; nil; return")
	m := made(t, p, noTypes(), 1)
	is(t, "P16.2", ended(m.Run(0)), "spent 0")
	b, err := m.Save()
	if told(err) != "22 0" || b != "" {
		t.Errorf("P16.4: %s, %d bytes", told(err), len(b))
	}
	if _, again := m.Save(); again == err {
		t.Error("P2: an error is not new")
	}
	if n := m.Collect(); n != 0 || m.Things() != 3 {
		t.Errorf("P16.3: %d were forgotten, %d are left", n, m.Things())
	}
	is(t, "P16.4: behind that", ended(m.Run(1)), "done 1")

	m = ofText(t, "func main() { l := []; for i in 400000 { l = append(l, i * 1234567) }; for { } }", 1)
	m.Run(api.MaxFuel)
	b, err = m.Save()
	if err != nil || len(b) > api.MaxImage {
		t.Errorf("P16.4: %v, %d bytes", err, len(b))
	}
}

// Bytes that are sealed as Save seals them, by chance others within: they are refused, or are a machine that may be, whose Save they are; and whatever that is, it goes on as a machine does.
func TestSealedByChance(t *testing.T) {
	t.Parallel()
	r := dice(5)
	taken, not := 0, 0
	for _, s := range playable() {
		p, table := compiled(t, s)
		for _, b := range points(t, p, table, 9, 2, 9, 14, 20, 40, 60, 999) {
			for range 300 {
				if wantRefusedOrRight(t, machine.Sealed(b, spoilt(r, machine.Between(b))), p, table) {
					taken++
				} else {
					not++
				}
			}
		}
	}
	if taken < 100 || not < 1000 {
		t.Errorf("%d were taken by chance, %d not", taken, not)
	}
}

// spoilt is bytes of which some are others, or are not there, or are there twice.
func spoilt(r *rand.Rand, s string) string {
	b := []byte(s)
	for range 1 + r.IntN(3) {
		i := r.IntN(len(b))
		switch r.IntN(6) {
		case 0:
			b[i] = byte(r.IntN(256))
		case 1:
			b[i]++
		case 2:
			b[i]--
		case 3:
			b[i] = byte(r.IntN(60))
		case 4:
			b = append(b[:i:i], b[i+1:]...)
		case 5:
			b = append(b[:i:i], append([]byte{byte(r.IntN(30))}, b[i:]...)...)
		}
		if len(b) == 0 {
			return ""
		}
	}
	return string(b)
}

func wantRefusedOrRight(t testing.TB, b string, p code.Program, table *types.Table) bool {
	t.Helper()
	m, err := machine.Load(b, p, table)
	if err != nil {
		if told(err) != "190 0" || m != nil {
			t.Fatalf("P16.4: %s, a machine: %v", told(err), m != nil)
		}
		return false
	}
	if again := saved(t, m); again != b {
		t.Fatalf("P16.4: Save of what was loaded is another one")
	}
	for range 6 {
		m.Run(11)
		things := m.Things()
		if n := m.Collect(); n < 0 || n > things || m.Collect() != 0 {
			t.Fatalf("P16.3: of %d things %d are forgotten", things, n)
		}
		if again, err := m.Save(); err == nil {
			loaded(t, again, p, table)
		}
	}
	return true
}

func FuzzLoad(f *testing.F) {
	s := playable()[0]
	p, err := compiledOf(s)
	if err != nil {
		f.Fatal(err)
	}
	table := tableOf(f, s)
	var like string
	for _, b := range points(f, p, table, 9, 5, 20, 30, 40, 60, 90, 120, 999) {
		like = b
		f.Add(machine.Between(b))
	}
	f.Fuzz(func(t *testing.T, between string) {
		wantRefusedOrRight(t, machine.Sealed(like, between), p, table)
		if _, err := machine.Load(between, p, table); told(err) != "190 0" {
			t.Errorf("P16.4: %s", told(err))
		}
	})
}

// A part that stands in the last field that a struct may have; and one that lies as deep as structs may be nested.
func TestKeptParts(t *testing.T) {
	var fields, chain strings.Builder
	for i := range api.MaxFields - 1 {
		fmt.Fprintf(&fields, "f%d; ", i)
	}
	for i := range 90 {
		fmt.Fprintf(&chain, "type C%d struct { .C%d }\n", i+1, i)
	}
	for _, s := range []string{
		"type T struct { x }\nfunc (t *T) me(n) { t.x = n; return t }\ntype A struct { " + fields.String() + ".T }\nfunc main() { a := &A{}; p := a.me(1); f := a.me; m := map{p: 1}; print(f(5) == p, p.x, m[f(6)], a.x) }",
		"type C0 struct { x }\nfunc (t *C0) me(n) { t.x = n; return t }\n" + chain.String() + "func main() { a := &C90{}; p := a.me(1); f := a.me; print(f(5) == p, p.x, a.x); p.x = C0{} }",
	} {
		asWalk(t, s, 100, 5)
		asWalk(t, s, 100, 5, 1)
	}
}
