package machine_test

import (
	"fmt"
	"runtime"
	"strings"
	"sync"
	"testing"
	"unsafe"

	"guise/api"
	"guise/code"
	"guise/machine"
)

// own is a text in memory of its own, that can be written over.
func own(s string) string {
	if s == "" {
		return ""
	}
	b := append([]byte(nil), s...)
	return unsafe.String(&b[0], len(b))
}

// wipe writes over a text's bytes.
func wipe(s string) {
	if s != "" {
		b := unsafe.Slice(unsafe.StringData(s), len(s))
		for i := range b {
			b[i] = '#'
		}
	}
}

// owned is a program whose texts can be written over, each by itself.
func owned(p code.Program) code.Program {
	p = apart(p)
	for i := range p.Globals {
		p.Globals[i] = own(p.Globals[i])
	}
	for i := range p.Funcs {
		p.Funcs[i].Name = own(p.Funcs[i].Name)
		for j := range p.Funcs[i].Code {
			p.Funcs[i].Code[j].Text = own(p.Funcs[i].Code[j].Text)
		}
	}
	return p
}

// spoil writes over all of a program.
func spoil(p code.Program) {
	for i := range p.Globals {
		wipe(p.Globals[i])
	}
	for i := range p.Funcs {
		f := &p.Funcs[i]
		wipe(f.Name)
		for j := range f.Taken {
			f.Taken[j] = 99
		}
		for j := range f.Code {
			wipe(f.Code[j].Text)
			f.Code[j] = code.Inst{Op: 99, A: -1}
		}
		*f = code.Func{}
	}
}

// spoilOutcome writes over what a Run answered.
func spoilOutcome(o api.Outcome, err error) {
	for _, line := range o.Out {
		wipe(line)
	}
	for i := range o.Out {
		o.Out[i] = "other"
	}
	if p, is := err.(*api.Panicked); is {
		wipe(p.Shown)
		if f, is := p.Cause.(*api.Fault); is {
			wipe(f.Word)
			wipe(f.More)
			f.Word = "other"
		}
		p.Shown = "other"
	}
}

// What was handed in and what came out is written over: nothing of it is seen.
func TestWrittenOver(t *testing.T) {
	for _, s := range append(playable(), "func main() { print(\"one\", [\"two\"]); x := \"three\"; panic(x + \"four\") }", "func main() { print(\"text\"); panic(&fault{word: \"word\", more: \"more\"}) }") {
		p, table := compiled(t, s)
		must := ran(t, p, table, 9, nothingBetween, piecesUpTo(600, []int{13})...)
		mine := owned(p)
		m := made(t, mine, table, 9)
		if !code.Same(mine, p) {
			t.Fatal("P16.5: what was handed in has changed")
		}
		spoil(mine)
		var got story
		for _, fuel := range piecesUpTo(600, []int{13}) {
			m.Watch(func(e api.Event) {
				kept := e
				kept.Text = own(e.Text)
				got.events = append(got.events, kept)
				wipe(e.Text)
			})
			o, err := m.Run(fuel)
			spoilOutcome(m.Run(0))
			got.runs, got.err = append(got.runs, ownOutcome(o)), err
			spoilOutcome(o, nil)
			b := own(saved(t, m))
			wipe(saved(t, m))
			mine := owned(p)
			m = loaded(t, b, mine, table)
			spoil(mine)
			wipe(b)
			if m.Over() {
				break
			}
		}
		if !got.same(must) {
			t.Errorf("P16.5: %s\n%s", difference(got.String(), must.String()), brief(s))
		}
		if m.Over() {
			_, a := m.Run(0)
			is(t, "P16.5: the panic", (story{err: a}).panicText(), must.panicText())
			spoilOutcome(m.Run(0))
			_, a = m.Run(0)
			is(t, "P16.5: the panic again", (story{err: a}).panicText(), must.panicText())
		}
	}
}

func ownOutcome(o api.Outcome) api.Outcome {
	out := o
	out.Out = nil
	for _, line := range o.Out {
		out.Out = append(out.Out, own(line))
	}
	return out
}

// Behind a list that came out there is nothing of the machine's; no two answers share memory.
func TestOutIsNewMemory(t *testing.T) {
	m := made(t, begins("text 'a'; built 1 'print'; pop; step; text 'b'; built 1 'print'; pop; step; nil; return"), noTypes(), 1)
	a, _ := m.Run(1)
	_ = append(a.Out, "x", "y", "z")
	b, _ := m.Run(0)
	a.Out[0] = "other"
	is(t, "P16.5", ended(b, nil), "spent 1 | a | b")
	is(t, "P16.5", ended(m.Run(1)), "done 2 | a | b")
	for _, line := range b.Out[len(b.Out):cap(b.Out)] {
		if line != "" {
			t.Errorf("P3: behind the lines stands %q", line)
		}
	}
}

// What was handed in is not written into, also where it has room behind it.
func TestHandedInStays(t *testing.T) {
	p, table := compiled(t, playable()[0])
	for i := range p.Funcs {
		p.Funcs[i].Code = append(p.Funcs[i].Code, code.Inst{Op: 77})[:len(p.Funcs[i].Code)]
	}
	before := apart(p)
	m := made(t, p, table, 9)
	m.Run(300)
	b := saved(t, m)
	kept := own(b)
	loaded(t, b, p, table).Run(300)
	if !code.Same(p, before) || b != kept {
		t.Error("P16.5: what was handed in has changed")
	}
	for _, f := range p.Funcs {
		if f.Code[:len(f.Code)+1][len(f.Code)].Op != 77 {
			t.Error("P3: what stands behind a list has changed")
		}
	}
}

// Machines know nothing of one another: two of one program, and what was loaded of one, are played in turns.
func TestBesideOneAnother(t *testing.T) {
	for _, s := range playable() {
		p, table := compiled(t, s)
		must := ended(made(t, p, table, 9).Run(400))
		a, b := made(t, p, table, 9), made(t, p, table, 9)
		var c *machine.Machine
		spent := 0
		for !a.Over() && spent < 400 {
			a.Run(3)
			if spent += 3; spent == 30 {
				c = loaded(t, saved(t, a), p, table)
				c.Run(50)
				c.Collect()
			}
			b.Run(1)
			b.Collect()
		}
		is(t, "P16.5: one", ended(a.Run(max(0, 400-spent))), must)
		o, _ := b.Run(0)
		is(t, "P16.5: the other", ended(b.Run(400-min(400, o.Steps))), must)
		if c != nil {
			o, _ := c.Run(0)
			is(t, "P16.5: the loaded one", ended(c.Run(400-min(400, o.Steps))), must)
		}
	}
}

// Several goroutines play machines over one table.
func TestSeveralAtOnce(t *testing.T) {
	p, table := compiled(t, playable()[0])
	must := ended(made(t, p, table, 9).Run(400))
	var wait sync.WaitGroup
	got := make([]string, 8)
	for i := range got {
		wait.Add(1)
		go func() {
			defer wait.Done()
			m, err := machine.New(p, table, 9)
			if err == nil {
				got[i] = ended(m.Run(400))
			}
		}()
	}
	wait.Wait()
	for _, one := range got {
		is(t, "Y5", one, must)
	}
}

// Whoever watches may look at the machine: it stands between two instructions. What is saved there goes on from there.
func TestLookedAtWithin(t *testing.T) {
	for _, s := range playable() {
		p, table := compiled(t, s)
		must := ran(t, p, table, 9, nothingBetween, 400)
		m := made(t, p, table, 9)
		told := 0
		var kept []string
		m.Watch(func(e api.Event) {
			if e != must.events[told] {
				t.Fatalf("P16.2: event %d is %v; must be %v", told, e, must.events[told])
			}
			told++
			things := m.Things()
			if n := m.Collect(); n < 0 || m.Things() != things-n || m.Collect() != 0 {
				t.Fatalf("P16.3: of %d things %d were forgotten", things, n)
			}
			if o, err := m.Run(5); err != nil || o.End != api.Spent || o.Steps > 400 {
				t.Fatalf("P16.2: a Run within: %s", ended(o, err))
			}
			if !m.Over() {
				kept = append(kept, fmt.Sprintf("%08d", told)+saved(t, m))
			}
		})
		o, err := m.Run(400)
		is(t, "P16.2: looked at", ended(o, err), ended(must.last(), must.err))
		for _, b := range kept {
			again := loaded(t, b[8:], p, table)
			o, _ := again.Run(0)
			for o.End == api.Spent && o.Steps < must.last().Steps {
				o, _ = again.Run(min(50, must.last().Steps-o.Steps))
			}
			is(t, "P16.4: what was saved within", ended(again.Run(0)), ended(must.last(), must.err))
		}
	}
}

// A panic of whoever watches is his own; the machine can be asked yet.
func TestWatchThatPanics(t *testing.T) {
	m := made(t, begins("step; step; step; nil; return"), noTypes(), 1)
	m.Watch(func(api.Event) { panic("mine") })
	if caught := tried(func() { m.Run(2) }); caught != "mine" {
		t.Errorf("what came through: %v", caught)
	}
	m.Watch(nil)
	is(t, "P16.2: and then", ended(m.Run(9)), "done 3")
}

// What can't be come to any more takes no memory.
func TestForgottenTakesNoMemory(t *testing.T) {
	m := ofText(t, "func f(a, b, c, d, e) { return func() { return a } }\nfunc g(a, b, c, d, e, h) { }\nfunc main() { for { g(1, 2, 3, 4, 5, 6) } }", 5)
	inUse := func() uint64 {
		runtime.GC()
		var stats runtime.MemStats
		runtime.ReadMemStats(&stats)
		return stats.HeapAlloc
	}
	m.Run(1000)
	before := inUse()
	m.Run(api.MaxFuel)
	if after := inUse(); after > before+8<<20 {
		t.Errorf("%d bytes more", after-before)
	}
	runtime.KeepAlive(m)
	if !strings.HasPrefix(ended(m.Run(0)), "spent 1001000") {
		t.Error("P16.2:", ended(m.Run(0)))
	}
}
