package code_test

import (
	"math/rand/v2"
	"testing"

	"guise/api"
	"guise/code"
)

// asTheModel holds all that is told of a program against the model.
func asTheModel(t testing.TB, p code.Program) bool {
	t.Helper()
	before := written(p)
	must := modelRight(p)
	if got := told(code.Right(p)); got != must {
		t.Fatalf("P13.1: %s; must be %s\n%s", got, must, before)
	}
	b, berr := code.Encode(p)
	s, serr := code.List(p)
	if told(berr) != must || told(serr) != must {
		t.Fatalf("P13.3: %v, P13.4: %v; must be %s\n%s", berr, serr, must, before)
	}
	if must == "ok" && b != modelEncode(p) {
		t.Fatalf("P13.3: Encode: %q; must be %q", b, modelEncode(p))
	}
	if must == "ok" && s != modelList(p) {
		t.Fatalf("P13.4: List: %s\nmust be %s", s, modelList(p))
	}
	if must != "ok" && (b != "" || s != "") {
		t.Fatalf("P2: bytes or lines beside an error\n%s", before)
	}
	if written(p) != before || !code.Same(p, p) || !code.Same(p, apart(p)) {
		t.Fatalf("P13.5, P13.2: it was changed, or is not itself\n%s", before)
	}
	return must == "ok"
}

// bytesAsTheModel: what comes of any bytes; what is taken is written as these again.
func bytesAsTheModel(t testing.TB, b string) bool {
	t.Helper()
	if got, must := decode(t, b), modelDecode(b); got != must {
		t.Fatalf("P13.3: Decode(%q): %s; must be %s", brief(b), got, must)
	}
	p, err := code.Decode(b)
	if err == nil && encoded(t, p) != b {
		t.Fatalf("P13.6: Encode of Decode(%q): %q", b, encoded(t, p))
	}
	return err == nil
}

// linesAsTheModel: what comes of any lines, likewise.
func linesAsTheModel(t testing.TB, s string) bool {
	t.Helper()
	if got, must := read(t, s), modelRead(s); got != must {
		t.Fatalf("P13.4: Read(%q): %s; must be %s", brief(s), got, must)
	}
	p, err := code.Read(s)
	if err == nil && listed(t, p) != s {
		t.Fatalf("P13.6: List of Read(%q): %q", s, listed(t, p))
	}
	return err == nil
}

// Right ones, and ones in which something is another; both as bytes and lines, too.
func TestByChance(t *testing.T) {
	r := dice(2)
	right, not := 0, map[string]int{}
	for range 1000 {
		p := grown(r)
		if !asTheModel(t, p) {
			t.Fatal("what has grown is not right")
		}
		wantThereAndBack(t, "by chance", p)
		for range 6 {
			q := mutated(r, p)
			if asTheModel(t, q) {
				right++
				wantUnlike(t, p, q)
			} else {
				not[modelRight(q)[:2]]++
			}
			bytesAsTheModel(t, modelEncode(q))
			linesAsTheModel(t, modelList(known(q)))
		}
	}
	if right < 700 || not["13"] < 700 || not["22"] < 5 {
		t.Errorf("by chance %d were right, %v not", right, not)
	}
}

// known is a program without operations that there are none of: lines can't tell these.
func known(p code.Program) code.Program {
	p = apart(p)
	for k, f := range p.Funcs {
		for i, in := range f.Code {
			if in.Op < 1 || in.Op > code.OpDrop {
				p.Funcs[k].Code[i].Op = code.OpNil
			}
		}
	}
	return p
}

// wantUnlike: programs are the same just if their bytes are, and just if their lines are.
func wantUnlike(t testing.TB, p, q code.Program) {
	t.Helper()
	same := written(p) == written(q)
	if code.Same(p, q) != same || code.Same(q, p) != same {
		t.Fatalf("P13.2: Same is %v of\n%s\n%s", !same, written(p), written(q))
	}
	if (encoded(t, p) == encoded(t, q)) != same || (listed(t, p) == listed(t, q)) != same {
		t.Fatalf("P13.6: unlike programs have the same bytes or lines\n%s\n%s", written(p), written(q))
	}
}

// garbled is a text with a few bytes turned, put in, left out, or said twice.
func garbled(r *rand.Rand, s string, from string) string {
	b := []byte(s)
	for range 1 + r.IntN(3) {
		if len(b) == 0 {
			return string(from[r.IntN(len(from))])
		}
		i, c := r.IntN(len(b)), from[r.IntN(len(from))]
		switch r.IntN(4) {
		case 0:
			b[i] = c
		case 1:
			b = append(b[:i], append([]byte{c}, b[i:]...)...)
		case 2:
			b = append(b[:i], b[i+1:]...)
		default:
			j := i + r.IntN(min(20, len(b)-i))
			b = append(b[:j:j], b[i:]...)
		}
	}
	return string(b)
}

func TestBytesByChance(t *testing.T) {
	r := dice(3)
	var every []byte
	for c := range 256 {
		every = append(every, byte(c))
	}
	small := "\x00\x01\x02\x03\x04\x0e\x64\x7f\x80\x81\xff"
	taken := 0
	for range 3000 {
		b := encoded(t, grown(r))
		for range 10 {
			if bytesAsTheModel(t, garbled(r, b, oneOf(r, string(every), small))) {
				taken++
			}
		}
		bytesAsTheModel(t, "GC01"+garbled(r, small, string(every)))
	}
	if taken < 100 {
		t.Error("too few were taken:", taken)
	}
}

func TestLinesByChance(t *testing.T) {
	r := dice(4)
	taken := 0
	for range 1500 {
		s := listed(t, grown(r))
		for range 10 {
			if linesAsTheModel(t, garbled(r, s, "0123456789- \t\n\"\\xafglobalsfunc\x00\xff_.+")) {
				taken++
			}
		}
	}
	if taken < 100 {
		t.Error("too few were taken:", taken)
	}
}

// Any row of bytes, and of lines of which each may be one.
func TestAnyRows(t *testing.T) {
	r := dice(5)
	lines := []string{"globals\n", "globals a b\n", "globals  a\n", "func - 0 0 -1\n", "func f 0 1 -1\n", "func func 0 0 0\n", "func func 0 0 0 0 -1\n", "\tnil 0 0 0\n", "\treturn 0 0 0\n", "\tstep 0 0 5\n", "\tjump 0 0 0\n", "\ttext 0 0 0 \"a b\"\n", "\n", "\tpop 0 0 0", "\tint 0 0 0 \"1\"\n", "#\n", ""}
	for range 20000 {
		s := lines[r.IntN(2)]
		for range r.IntN(8) {
			s += oneOf(r, lines...)
		}
		linesAsTheModel(t, s)
	}
	for range 20000 {
		b := []byte("GC01")[:r.IntN(5)]
		for range r.IntN(30) {
			b = append(b, oneOf(r, 0, 0, 0, 1, 2, 4, 14, 100, byte(r.IntN(256))))
		}
		bytesAsTheModel(t, string(b))
		bytesAsTheModel(t, "GC01"+string(b))
	}
}

// What is answered hangs on what is asked alone: the same again, whatever was asked between; errors are new ones.
func TestTheSameAgain(t *testing.T) {
	r := dice(6)
	for range 500 {
		p := mutated(r, grown(r))
		first := told(code.Right(p))
		code.Right(grown(r))
		err, again := code.Right(p), code.Right(p)
		if told(err) != first || told(again) != first || err != nil && err == again {
			t.Fatalf("P4: %s, %v, %v", first, err, again)
		}
	}
	_, a := code.Decode("x")
	_, b := code.Decode("x")
	_, c := code.Read("x")
	_, d := code.Read("x")
	if a == b || c == d || told(a) != told(b) || told(c) != told(d) {
		t.Error("P2: errors are not new ones")
	}
}

func FuzzDecode(f *testing.F) {
	r := dice(7)
	for range 20 {
		f.Add(modelEncode(grown(r)))
	}
	f.Fuzz(func(t *testing.T, b string) {
		if len(b) < 5000 {
			bytesAsTheModel(t, b)
		}
	})
}

func FuzzRead(f *testing.F) {
	r := dice(8)
	for range 20 {
		f.Add(modelList(grown(r)))
	}
	f.Fuzz(func(t *testing.T, s string) {
		if len(s) < 5000 {
			linesAsTheModel(t, s)
		}
	})
}

func FuzzRight(f *testing.F) {
	for seed := range uint64(20) {
		f.Add(seed)
	}
	f.Fuzz(func(t *testing.T, seed uint64) {
		r := dice(seed)
		p := grown(r)
		if !asTheModel(t, p) {
			t.Fatal("what has grown is not right")
		}
		wantThereAndBack(t, "by chance", p)
		for range api.MaxParams {
			asTheModel(t, mutated(r, p))
		}
	})
}
