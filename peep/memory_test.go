package peep_test

import (
	"errors"
	"fmt"
	"strings"
	"sync"
	"testing"
	"unsafe"

	"guise/api"
	"guise/code"
	"guise/peep"
)

// roomy is a program in memory of its own, its texts too, with spare room behind all its lists, in which something stands.
func roomy(p code.Program) code.Program {
	var out code.Program
	out.Globals = append(make([]string, 0, len(p.Globals)+2), p.Globals...)
	for i := range out.Globals {
		out.Globals[i] = strings.Clone(out.Globals[i])
	}
	copy(out.Globals[len(out.Globals):cap(out.Globals)], []string{"spare", "room"})
	out.Funcs = append(make([]code.Func, 0, len(p.Funcs)+2), p.Funcs...)
	for k, f := range out.Funcs {
		taken := append(make([]int, 0, len(f.Taken)+3), f.Taken...)
		copy(taken[len(taken):cap(taken)], []int{91, 92, 93})
		l := append(make([]code.Inst, 0, len(f.Code)+2), f.Code...)
		for i := range l {
			l[i].Text = strings.Clone(l[i].Text)
		}
		copy(l[len(l):cap(l)], []code.Inst{{Op: 94}, {Text: "95"}})
		f.Name, f.Taken, f.Code = strings.Clone(f.Name), taken, l
		out.Funcs[k] = f
	}
	copy(out.Funcs[len(out.Funcs):cap(out.Funcs)], []code.Func{{Name: "spare"}, {Name: "room"}})
	return out
}

// all writes a program with what stands behind its lists.
func all(p code.Program) string {
	out := fmt.Sprintf("%q\n", p.Globals[:cap(p.Globals)])
	for _, f := range p.Funcs[:cap(p.Funcs)] {
		out += fmt.Sprintf("%q %d %d %v %d %+v\n", f.Name, f.Params, f.Slots, f.Taken[:cap(f.Taken)], f.Around, f.Code[:cap(f.Code)])
	}
	return out
}

// spoilText writes over a text, where it lies; one of few bytes may be Go's own, which nobody can write.
func spoilText(s string) {
	if len(s) > 2 {
		b := unsafe.Slice(unsafe.StringData(s), len(s))
		for i := range b {
			b[i] = '?'
		}
	}
}

// spoil writes over a program, its texts, its lists and their spare room.
func spoil(p code.Program) {
	for _, f := range p.Funcs {
		spoilText(f.Name)
		for _, in := range f.Code {
			spoilText(in.Text)
		}
		for i := range f.Code[:cap(f.Code)] {
			f.Code[:cap(f.Code)][i] = code.Inst{Op: -1, A: -1, B: -1, At: -1}
		}
		for i := range f.Taken[:cap(f.Taken)] {
			f.Taken[:cap(f.Taken)][i] = -99
		}
	}
	for _, s := range p.Globals {
		spoilText(s)
	}
	clear(p.Globals[:cap(p.Globals)])
	clear(p.Funcs[:cap(p.Funcs)])
}

// samples are programs with something in all their lists, with texts that are long enough to be written over, and one as short as can be.
func samples() []code.Program {
	p, must := headed()
	text := code.Inst{Op: code.OpText, Text: "a long text"}
	other := one(num(123456), num(654321), binary("+"), text, pop, built("print", 1), code.Inst{Op: code.OpSelect, Text: "field"}, ret)
	other.Globals = []string{"variable"}
	out := []code.Program{p, must, other, one(text, ret)}
	r := dice(10)
	for range 60 {
		out = append(out, grown(r))
	}
	return out
}

func TestNothingIsWrittenInto(t *testing.T) {
	t.Parallel()
	for _, p := range samples() {
		in := roomy(p)
		before := all(in)
		peep.Program(in)
		peep.Saved(in)
		if all(in) != before {
			t.Fatalf("P3: it was written into\n%s\n%s", before, all(in))
		}
	}
}

// What was handed in is written over, and what came out stays; what came out is written over, and what was handed in stays, and another answer, too.
func TestNothingIsShared(t *testing.T) {
	t.Parallel()
	for _, p := range samples() {
		in := roomy(p)
		q, err := peep.Program(in)
		if err != nil {
			t.Fatal(err)
		}
		again, _ := peep.Program(in)
		before, after := all(in), written(q)
		spoil(again)
		if all(in) != before || written(q) != after {
			t.Fatalf("P3: an answer shares memory\n%s", after)
		}
		spoil(in)
		if written(q) != after {
			t.Fatalf("P3: what was handed in is kept\n%s\n%s", after, written(q))
		}
		if must, _ := peep.Program(p); written(must) != after {
			t.Fatalf("P3: something is kept from call to call\n%s", after)
		}
		wantAlone(t, q)
	}
}

// wantAlone writes into each list of an answer, and into its spare room: the others stay.
func wantAlone(t *testing.T, p code.Program) {
	t.Helper()
	before := written(p)
	_ = append(p.Globals, "behind")
	_ = append(p.Funcs, code.Func{Name: "behind"})
	for _, f := range p.Funcs {
		_ = append(f.Taken, -99)
		_ = append(f.Code, code.Inst{Op: -99})
	}
	if written(p) != before {
		t.Fatal("P3: lists of one answer share memory")
	}
	for k, f := range p.Funcs {
		q := apart(p)
		for i := range f.Code {
			f.Code[i].A++
			q.Funcs[k].Code[i].A++
		}
		for i := range f.Taken {
			f.Taken[i]++
			q.Funcs[k].Taken[i]++
		}
		if !code.Same(p, q) {
			t.Fatal("P3: functions of one answer share memory")
		}
	}
}

// An error is new each time: who changes it changes no other one.
func TestErrorsAreNew(t *testing.T) {
	t.Parallel()
	var w *api.Wrong
	_, err := peep.Program(one(null))
	if !errors.As(err, &w) || !errors.Is(err, api.ErrCode) || errors.Is(err, api.ErrMany) {
		t.Fatalf("P2: %v", err)
	}
	*w = api.Wrong{}
	wantWrong(t, one(null), "130 0 0")
}

// Calls know nothing of one another: several goroutines ask of one program.
func TestAtOneTime(t *testing.T) {
	t.Parallel()
	for _, p := range samples()[:8] {
		must, _ := peep.Program(p)
		var all sync.WaitGroup
		for range 8 {
			all.Go(func() {
				q, err := peep.Program(p)
				if n, _ := peep.Saved(p); err != nil || !code.Same(q, must) || n != count(p)-count(q) {
					t.Error("P4: not the same at one time")
				}
			})
		}
		all.Wait()
	}
}
