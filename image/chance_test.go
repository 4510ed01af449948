package image_test

import (
	"fmt"
	"math/rand/v2"
	"strings"
	"testing"

	"guise/api"
	"guise/image"
	"guise/machine"
)

// grow writes a program by chance: functions that do some of what stands below, each of which may call those ahead of it.
func grow(r *rand.Rand) string {
	out := "type T struct { a; b }\ntype U struct { .T; .*T2; .P; c }\ntype T2 struct { d }\ntype K = int\nprotocol P { get(0) }\n" +
		"func (t T) get() { return t.a }\nfunc (t *T) set(n) { t.b = n; return t }\nfunc (k K) get() { return int(k) }\nfunc (t *T2) low() { return t }\n" +
		"var g = [1, \"x\", nil]\nvar h = map{1: g, \"k\": T{a: 1}}\nvar o = &U{P: K(4)}\nfunc f0(n) { return n }\n"
	for i := range 4 {
		out += fmt.Sprintf("func f%d(n) { x := [n]; y := n; %s }\n", i+1, statements(r, 2+r.IntN(5), fmt.Sprint("f", r.IntN(i+1))))
	}
	return out + "func main() { n := 3; x := g; y := 1; " + statements(r, 7, "f4") + " }\n"
}

func statements(r *rand.Rand, n int, called string) string {
	var out []string
	for range n {
		s := oneOf(r,
			"print(n, x, y)", "y = CALL(n)", "defer CALL(y)", "defer print(y, x)", "x = append(x, CALL(n))",
			"for i, v in x { h[i] = v; y = i }", "for k, v in h { o.c = [k, v]; BODY }", "for c in \"ab\" { o.a = c; BODY }", "for i in 3 { BODY }",
			"defer func() { y = recover(); print(y) }()", "if y == n { panic(x) }", "panic([n, CALL(n)])", "x[0] = func() { y = y; return [x, n] }",
			"x = [o.set, (*U).set, T.get, o.get]", "o.T = T{a: x, b: y}", "h[o.set(y)] = o", "delete(h, 1)", "o.T2 = &T2{d: CALL(1)}", "y = o.get()", "y = o.low()",
			"x = x[0:1]", "x = [K(5), 2.5, true, nil(*T), o]", "y = h[T{a: n}]", "o.b += CALL(2)", "g = x", "y = x[9]", "{ z, ok := y.(P); if ok { print(z.get()) } }",
			"switch v := y.(type) { case int: BODY; case T, P: print(v); default: BODY }", "copy(x, g)", "return x", "{ BODY }",
		)
		for strings.Contains(s, "BODY") {
			s = strings.Replace(s, "BODY", oneOf(r, "CALL(n)", "print(y)", "y = [y]", "n = CALL(0)", "x = append(x, y)"), 1)
		}
		out = append(out, strings.ReplaceAll(s, "CALL", called))
	}
	return strings.Join(out, "; ")
}

// Programs by chance, kept at points by chance, with collections between: they go on as those that were not kept.
func TestKeptByChance(t *testing.T) {
	t.Parallel()
	r := dice(2)
	ends, kept := map[int]int{}, 0
	for range 150 {
		w := newTwins(t, grow(r), 1+r.IntN(12))
		for range 60 {
			if w.run(t, r.IntN(6)); w.never.Over() {
				break
			}
			if r.IntN(3) == 0 {
				w.collect(t)
			}
			if r.IntN(2) == 0 {
				w.keep(t)
				kept++
			}
		}
		w.keep(t)
		ends[w.run(t, 2000).End]++
		w.keep(t)
		w.collect(t)
	}
	if kept < 500 || ends[api.Done] < 20 || ends[api.Panic] < 20 || ends[api.Overflow] < 5 {
		t.Errorf("too little came by chance: %d were kept, they ended %v", kept, ends)
	}
}

// spoilt is an image of which something is another one by chance: bytes, lengths, the source, the machine's bytes; with a right check at times.
func spoilt(r *rand.Rand, all []some) string {
	x, y := oneOf(r, all...), oneOf(r, all...)
	b := x.b
	switch r.IntN(10) {
	case 0:
		b = unsealed(x.s, y.own) + "abcd"
	case 1:
		b = unsealed(y.s, x.own) + "abcd"
	case 2:
		b = unsealed(oneOf(r, "", "func main( { }", x.s+" ", " "+x.s, x.s+"\nvar q = 1", x.s[1:]), x.own) + "abcd"
	case 3:
		b = x.b[:6] + inFour(uint64(r.IntN(len(x.b)+9))) + x.b[10:]
	case 4:
		at := 10 + len(x.s)
		b = x.b[:at] + inFour(uint64(r.IntN(len(x.b)+9))) + x.b[at+4:]
	case 5:
		b = x.b[:r.IntN(len(x.b))]
	case 6:
		b += strings.Repeat(oneOf(r, "\x00", "a", x.b), 1+r.IntN(4))
	}
	if r.IntN(2) == 0 && len(b) > 4 {
		i := r.IntN(len(b) - 4)
		b = b[:i] + string([]byte{byte(r.IntN(256))}) + b[i+1:]
	}
	if r.IntN(3) > 0 && len(b) > 4 {
		b = sealed(b[:len(b)-4])
	}
	return b
}

// Images that are spoilt by chance are refused where the second reading says it, or taken.
func TestSpoiltByChance(t *testing.T) {
	t.Parallel()
	r := dice(3)
	all := images(t)
	count := map[string]int{}
	for range 20000 {
		b := spoilt(r, all)
		at, source := placeOf(t, b)
		if at < 0 {
			m := loaded(t, b, source)
			is(t, "P19.5: Save again", saved(t, m, source), b)
			count["taken"]++
			continue
		}
		wantNoImage(t, fmt.Sprintf("%q", b), b, at)
		switch {
		case at < 6:
			count["sign"]++
		case at == 6:
			count["source's length"]++
		case at == 10:
			count["source"]++
		case at == len(b)-4:
			count["check"]++
		case at == 14+int(ofFour(b[6:])):
			count["machine"]++
		case at == 10+int(ofFour(b[6:])):
			count["machine's length"]++
		default:
			count["behind"]++
		}
	}
	for _, what := range []string{"taken", "sign", "source's length", "source", "check", "machine", "machine's length", "behind"} {
		if count[what] < 100 {
			t.Errorf("too few came by chance of %s: %v", what, count)
		}
	}
}

// Bytes by chance, with and without a sign and right lengths.
func TestAnyBytes(t *testing.T) {
	t.Parallel()
	r := dice(4)
	for range 20000 {
		b := anyBytes(r, 60)
		switch r.IntN(4) {
		case 0:
			b = "GUISE1" + b
		case 1:
			b = "GUISE1" + inFour(uint64(r.IntN(20))) + b
		case 2:
			b = sealed(unsealed(anyBytes(r, 20), b))
		}
		at, _ := placeOf(t, b)
		wantNoImage(t, fmt.Sprintf("%q", b), b, at)
	}
}

func anyBytes(r *rand.Rand, most int) string {
	b := make([]byte, r.IntN(most))
	for i := range b {
		b[i] = byte(r.IntN(256))
	}
	return string(b)
}

// ownAhead is how many bytes a machine says of itself ahead of what it holds: what they are, how many there are, the program's print. A check is behind it all.
const ownAhead = 16

// ownSealed is a machine's bytes that say they are right, whatever stands between: so all that is asked of them is asked.
func ownSealed(like, between string) string {
	b := like[:4] + inFour(uint64(ownAhead+len(between)+4)) + like[8:ownAhead] + between
	return sealed(b)
}

func between(own string) string { return own[ownAhead : len(own)-4] }

// turned is bytes of which some are others, or are not there, or are there twice.
func turned(r *rand.Rand, s string) string {
	b := []byte(s)
	for range 1 + r.IntN(3) {
		if len(b) == 0 {
			break
		}
		i := r.IntN(len(b))
		switch r.IntN(6) {
		case 0:
			b[i] = byte(r.IntN(256))
		case 1:
			b[i]++
		case 2:
			b[i]--
		case 3:
			b[i] = byte(r.IntN(60))
		case 4:
			b = append(b[:i:i], b[i+1:]...)
		case 5:
			b = append(b[:i:i], append([]byte{byte(r.IntN(30))}, b[i:]...)...)
		}
	}
	return string(b)
}

// A machine's bytes by chance, under right checks all around: an error, or a machine whose calls all end, and whose faults are the language's.
func TestTurnedUnderARightCheck(t *testing.T) {
	t.Parallel()
	r := dice(5)
	taken, not := 0, 0
	for _, s := range playable() {
		for _, pieces := range [][]int{{}, {2}, {9}, {25}, {45}, {80}, {2000}} {
			own := ownBytes(t, made(t, s, 9, pieces...))
			is(t, "a machine's bytes as they are sealed", ownSealed(own, between(own)), own)
			for range 60 {
				if refusedOrRight(t, s, ownSealed(own, turned(r, between(own)))) {
					taken++
				} else {
					not++
				}
			}
		}
	}
	if taken < 50 || not < 1000 {
		t.Errorf("%d were taken by chance, %d not", taken, not)
	}
}

const words = " conversion compare key nil range divide operand missing arguments bool place panic count "

// refusedOrRight: an image of these parts is refused at the machine's place, or all calls of what it is end: whether it was taken.
func refusedOrRight(t testing.TB, s, own string) bool {
	t.Helper()
	b := sealed(unsealed(s, own))
	if len(b) > api.MaxImage {
		wantNoImage(t, "too much", b, 0)
		return false
	}
	m, source, err := image.Load(b)
	if err != nil {
		wantNoImage(t, "a machine that can't be", b, 14+len(s))
		return false
	}
	is(t, "P19.3: the source", source, s)
	is(t, "P19.5: Save again", saved(t, m, s), b)
	goesOn(t, m, s)
	return true
}

// goesOn lets a machine run for some pieces; what it says of itself is taken again.
func goesOn(t testing.TB, m *machine.Machine, s string) {
	t.Helper()
	for range 6 {
		before := m.Over()
		o, err := m.Run(13)
		if p, is := err.(*api.Panicked); is && !before {
			if f, is := p.Cause.(*api.Fault); is && !strings.Contains(words, " "+f.Word+" ") && !strings.Contains(s, "fault{") {
				t.Fatalf("P19.6: a fault that is none of the language's: %s", told(err))
			}
		} else if err != nil && !is {
			t.Fatalf("P19.6: %s", told(err))
		}
		if o.End < api.Done || o.End > api.Full {
			t.Fatalf("P19.6: the end is %d", o.End)
		}
		things := m.Things()
		if n := m.Collect(); n < 0 || n > things || m.Collect() != 0 || m.Things() != things-n {
			t.Fatalf("P19.6: of %d things %d are forgotten", things, n)
		}
		if b, err := image.Save(m, s); err == nil {
			m = loaded(t, b, s)
		} else if told(err) != "22 0" {
			t.Fatalf("P19.6: Save: %s", told(err))
		}
	}
}

func FuzzCheck(f *testing.F) {
	for _, x := range images(f) {
		f.Add(x.b, false)
		f.Add(x.b[:len(x.b)-4], true)
	}
	f.Add("GUISE1", false)
	f.Add("", false)
	f.Fuzz(func(t *testing.T, b string, seal bool) {
		if seal {
			b = sealed(b)
		}
		at, source := placeOf(t, b)
		if at >= 0 {
			wantNoImage(t, fmt.Sprintf("%q", b), b, at)
			return
		}
		m := loaded(t, b, source)
		is(t, "P19.5: Save again", saved(t, m, source), b)
		goesOn(t, m, source)
	})
}

func FuzzMachine(f *testing.F) {
	s := playable()[0]
	like := ""
	for _, fuel := range []int{0, 5, 20, 40, 70, 120, 999} {
		like = ownBytes(f, made(f, s, 9, fuel))
		f.Add(between(like))
	}
	f.Fuzz(func(t *testing.T, between string) { refusedOrRight(t, s, ownSealed(like, between)) })
}

func FuzzSource(f *testing.F) {
	for _, s := range playable() {
		f.Add(s, 20)
	}
	for s := range unfit() {
		if len(s) < 1000 {
			f.Add(s, 0)
		}
	}
	m := made(f, least, 5)
	f.Fuzz(func(t *testing.T, s string, fuel int) {
		at, _ := placeOf(t, sealed(unsealed(s, "")))
		if at == 10 {
			if b, err := image.Save(m, s); err == nil || b != "" {
				t.Errorf("P19.1: Save: %s, %d bytes", told(err), len(b))
			}
			return
		}
		w := newTwins(t, s, 9)
		w.run(t, fuel&1023)
		w.keep(t)
		w.run(t, 500)
	})
}
