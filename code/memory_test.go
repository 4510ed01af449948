package code_test

import (
	"fmt"
	"slices"
	"strings"
	"testing"
	"unsafe"

	"guise/code"
)

// writable is a text whose bytes can be written over.
func writable(s string, kept *[][]byte) string {
	if s == "" {
		return ""
	}
	own := []byte(s)
	*kept = append(*kept, own)
	return unsafe.String(&own[0], len(own))
}

// roomy is a program in memory of its own, with spare room behind all its lists, in which something stands.
func roomy(p code.Program, kept *[][]byte) code.Program {
	var out code.Program
	out.Globals = append(make([]string, 0, len(p.Globals)+2), p.Globals...)
	for i := range out.Globals {
		out.Globals[i] = writable(out.Globals[i], kept)
	}
	copy(out.Globals[len(out.Globals):cap(out.Globals)], []string{"spare", "room"})
	out.Funcs = append(make([]code.Func, 0, len(p.Funcs)+2), p.Funcs...)
	for k, f := range out.Funcs {
		taken := append(make([]int, 0, len(f.Taken)+3), f.Taken...)
		copy(taken[len(taken):cap(taken)], []int{91, 92, 93})
		l := append(make([]code.Inst, 0, len(f.Code)+2), f.Code...)
		for i := range l {
			l[i].Text = writable(l[i].Text, kept)
		}
		copy(l[len(l):cap(l)], []code.Inst{{Op: 94}, {Text: "95"}})
		f.Name, f.Taken, f.Code = writable(f.Name, kept), taken, l
		out.Funcs[k] = f
	}
	copy(out.Funcs[len(out.Funcs):cap(out.Funcs)], []code.Func{{Name: "spare"}, {Name: "room"}})
	return out
}

// whole writes a program with what stands behind its lists.
func whole(p code.Program) string {
	out := fmt.Sprintf("%q\n", p.Globals[:cap(p.Globals)])
	for _, f := range p.Funcs[:cap(p.Funcs)] {
		out += fmt.Sprintf("%q %d %d %v %d %+v\n", f.Name, f.Params, f.Slots, f.Taken[:cap(f.Taken)], f.Around, f.Code[:cap(f.Code)])
	}
	return out
}

// wipeString leaves texts of one byte: those may stand where nobody can write.
func wipeString(s string) {
	if len(s) > 1 {
		clear(unsafe.Slice(unsafe.StringData(s), len(s)))
	}
}

// wipe writes over a program, its texts, its lists and their spare room.
func wipe(p code.Program) {
	for _, s := range p.Globals {
		wipeString(s)
	}
	for i := range p.Globals[:cap(p.Globals)] {
		p.Globals[:cap(p.Globals)][i] = "wiped"
	}
	for k, f := range p.Funcs {
		wipeString(f.Name)
		for i := range f.Taken[:cap(f.Taken)] {
			f.Taken[:cap(f.Taken)][i] = -99
		}
		for i, in := range f.Code {
			wipeString(in.Text)
			f.Code[i] = code.Inst{Op: -99}
		}
		for i := range f.Code[:cap(f.Code)] {
			f.Code[:cap(f.Code)][i] = code.Inst{Op: -98}
		}
		p.Funcs[k] = code.Func{Name: "wiped"}
	}
	for k := range p.Funcs[:cap(p.Funcs)] {
		p.Funcs[:cap(p.Funcs)][k] = code.Func{Name: "wiped"}
	}
}

func wipeBytes(kept [][]byte) {
	for _, own := range kept {
		for i := range own {
			own[i] = '#'
		}
	}
}

// samples are programs with something in all their lists, and such that are not right.
func samples() []code.Program {
	r := dice(10)
	out := []code.Program{rich(), altered(4, func(f *code.Func) {}), one(ends()...)}
	for range 100 {
		p := grown(r)
		out = append(out, p, mutated(r, p))
	}
	for _, f := range faults()[3:] {
		p := sound()
		f.do(&p)
		out = append(out, p)
	}
	return out
}

// Nothing that is handed in is written into, nor what stands behind it.
func TestNothingIsWrittenInto(t *testing.T) {
	for _, p := range samples() {
		var kept [][]byte
		in, other := roomy(p, &kept), roomy(p, &kept)
		before := whole(in)
		code.Right(in)
		code.Same(in, other)
		code.Encode(in)
		code.List(in)
		if whole(in) != before || whole(other) != before {
			t.Fatalf("P13.5: it was written into\n%s\n%s", before, whole(in))
		}
	}
}

// What is answered shares nothing with what was handed in: that is written over, and the answer stays.
func TestNothingIsKept(t *testing.T) {
	for _, p := range samples() {
		var kept [][]byte
		in := roomy(p, &kept)
		b, berr := code.Encode(in)
		s, _ := code.List(in)
		err := code.Right(in)
		must, bytes, lines, said := told(err), modelEncode(p), modelList(known(p)), told(berr)
		wipe(in)
		wipeBytes(kept)
		if told(err) != must || told(berr) != said {
			t.Fatalf("P13.5: an error changed with the program: %v", err)
		}
		if err == nil && (b != bytes || s != lines) {
			t.Fatal("P13.5: bytes or lines changed with the program")
		}
	}
}

func TestBytesAndLinesAreNotKept(t *testing.T) {
	for _, p := range samples() {
		if code.Right(p) != nil {
			continue
		}
		var kept [][]byte
		q, berr := code.Decode(writable(modelEncode(p), &kept))
		o, serr := code.Read(writable(modelList(p), &kept))
		wipeBytes(kept)
		if berr != nil || serr != nil || !code.Same(p, q) || !code.Same(p, o) {
			t.Fatalf("P13.5: a program changed with its bytes or lines: %v, %v\n%s\n%s", berr, serr, written(q), written(o))
		}
	}
	var kept [][]byte
	_, berr := code.Decode(writable("GC01\x02\x02#", &kept))
	_, serr := code.Read(writable("globals\nx\n", &kept))
	wipeBytes(kept)
	if told(berr) != "130 7" || told(serr) != "130 2" {
		t.Errorf("P13.5: errors changed with bytes and lines: %v, %v", berr, serr)
	}
}

// Two answers share nothing, nor do lists and texts of one: each is written over by itself, and all others stay.
func TestAnswersAreNewMemory(t *testing.T) {
	for _, p := range samples() {
		if code.Right(p) != nil {
			continue
		}
		b, s := encoded(t, p), listed(t, p)
		q, _ := code.Decode(b)
		o, _ := code.Read(s)
		wantAlone(t, q)
		wantAlone(t, o)
		r, _ := code.Decode(b)
		u, _ := code.Read(s)
		wipe(q)
		wipe(o)
		if !code.Same(r, p) || !code.Same(u, p) || encoded(t, p) != b || listed(t, p) != s {
			t.Fatal("P3: two answers share memory")
		}
		c, v := encoded(t, p), listed(t, p)
		wipeString(c)
		wipeString(v)
		if encoded(t, p) != b || listed(t, p) != s || b != modelEncode(p) || s != modelList(p) {
			t.Fatal("P3: two answers share bytes")
		}
	}
	if s := listed(t, one(ends()...)); !strings.Contains(s, "return") || told(code.Right(one(ends()...))) != "ok" {
		t.Error("P3: names of operations were written over")
	}
}

// wantAlone writes into the spare room of each list: the others stay.
func wantAlone(t *testing.T, p code.Program) {
	t.Helper()
	before := written(p)
	_ = append(p.Globals, "behind")
	_ = append(p.Funcs, code.Func{Name: "behind"})
	for _, f := range p.Funcs {
		_ = append(f.Taken, -99)
		_ = append(f.Code, code.Inst{Op: -99})
	}
	if written(p) != before {
		t.Fatal("P3: lists of one answer share memory")
	}
	for k, f := range p.Funcs {
		q := apart(p)
		for i := range f.Code {
			old := f.Code[i]
			f.Code[i].A++
			q.Funcs[k].Code[i].A++
			if !code.Same(p, q) {
				t.Fatal("P3: functions of one answer share code")
			}
			f.Code[i], q.Funcs[k].Code[i] = old, old
		}
	}
	for _, f := range p.Funcs {
		if slices.ContainsFunc(f.Code[len(f.Code):cap(f.Code)], func(in code.Inst) bool { return in != code.Inst{} && in.Op != -99 }) {
			t.Fatal("P3: behind a list stands something")
		}
	}
}
