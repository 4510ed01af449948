package trace_test

import (
	"fmt"
	"slices"
	"strings"
	"sync"
	"testing"
	"unsafe"

	"guise/api"
	"guise/code"
	"guise/trace"
)

// own is a text in memory of its own, that can be written over.
func own(s string) string {
	if s == "" {
		return ""
	}
	b := append([]byte(nil), s...)
	return unsafe.String(&b[0], len(b))
}

// wipe writes over a text's bytes; one of a single byte may be Go's own, which nobody can write.
func wipe(s string) {
	if len(s) > 1 {
		b := unsafe.Slice(unsafe.StringData(s), len(s))
		for i := range b {
			b[i] = '~'
		}
	}
}

// ownTree is a tree in memory of its own, with something behind its lists.
func ownTree(n api.Node) api.Node {
	n.Text = own(n.Text)
	kids := make([]api.Node, len(n.Kids), len(n.Kids)+2)
	for i, kid := range n.Kids {
		kids[i] = ownTree(kid)
	}
	copy(kids[len(kids):cap(kids)], []api.Node{{Kind: 77, Text: "behind"}, {At: 78}})
	n.Kids = kids
	return n
}

// drawn is all of a tree, with what stands behind its lists.
func drawn(n api.Node) string {
	out := fmt.Sprint("(", n.Kind, " ", n.Text, " ", n.N, " ", n.At)
	for _, kid := range n.Kids[:cap(n.Kids)] {
		out += drawn(kid)
	}
	return out + ")"
}

func wipeTree(n api.Node) {
	wipe(n.Text)
	for i := range n.Kids {
		wipeTree(n.Kids[i])
		n.Kids[i] = api.Node{Kind: 99, Text: "?"}
	}
}

// ownCode is code in memory of its own, with something behind its lists.
func ownCode(p code.Program) code.Program {
	out := code.Program{Globals: append(slices.Clone(p.Globals), "behind")[:len(p.Globals)]}
	for i := range out.Globals {
		out.Globals[i] = own(out.Globals[i])
	}
	for _, f := range p.Funcs {
		f.Name = own(f.Name)
		f.Taken = append(slices.Clone(f.Taken), 77)[:len(f.Taken)]
		f.Code = append(slices.Clone(f.Code), code.Inst{Op: 77})[:len(f.Code)]
		for i := range f.Code {
			f.Code[i].Text = own(f.Code[i].Text)
		}
		out.Funcs = append(out.Funcs, f)
	}
	return out
}

func drawnCode(p code.Program) string {
	out := fmt.Sprintf("%q", p.Globals[:cap(p.Globals)])
	for _, f := range p.Funcs {
		out += fmt.Sprintf("%q %d %d %v %d %+v\n", f.Name, f.Params, f.Slots, f.Taken[:cap(f.Taken)], f.Around, f.Code[:cap(f.Code)])
	}
	return out
}

func wipeCode(p code.Program) {
	for _, s := range p.Globals {
		wipe(s)
	}
	for _, f := range p.Funcs {
		wipe(f.Name)
		for i := range f.Code {
			wipe(f.Code[i].Text)
			f.Code[i] = code.Inst{Op: 99, A: -1}
		}
	}
	clear(p.Funcs)
}

// ownList is events in memory of their own, with something behind them.
func ownList(l []api.Event) []api.Event {
	out := make([]api.Event, len(l), len(l)+2)
	for i, e := range l {
		e.Text = own(e.Text)
		out[i] = e
	}
	copy(out[len(out):cap(out)], []api.Event{{Kind: 2, Text: "behind"}, {Kind: 3, Text: "behind"}})
	return out
}

func wipeList(l []api.Event) {
	for i := range l {
		wipe(l[i].Text)
	}
	l = l[:cap(l)]
	for i := range l {
		l[i] = api.Event{Kind: 99, At: 99, Text: "??"}
	}
}

const keeping = `
type Type struct { field }
func (t Type) method() { return t.field }
var global = "global"
func named() { print("line"); print("one", global); print(Type.method(Type{field: "held"})) }
func main() { named(); named(); defer named(); defer func() { print(recover()); panic(&fault{word: "the word", more: "the more"}) }(); panic("value") }
`

// What was handed in is written over, and what came out stays; what came out is written over, and what was handed in stays, and another answer, too.
func TestRunsKeepNothing(t *testing.T) {
	programs := []string{keeping}
	r := dice(70)
	for range 40 {
		s, _ := grownProgram(t, r)
		programs = append(programs, s)
	}
	for _, s := range programs {
		n := ownTree(parsed(t, s))
		plain, table := compiled(t, n)
		p := ownCode(plain)
		before, beforeCode := drawn(n), drawnCode(p)
		must := own(texts(watchedWalk(n, 500, 9)))
		for what, do := range map[string]func() ([]api.Event, error){
			"Walk":    func() ([]api.Event, error) { return trace.Walk(n, 500, 9) },
			"Machine": func() ([]api.Event, error) { return trace.Machine(p, table, 500, 9) },
		} {
			a, err := do()
			b, _ := do()
			if err != nil || drawn(n) != before || drawnCode(p) != beforeCode {
				t.Fatalf("R5: %s changes what is handed in: %s", what, s)
			}
			wipeList(b)
			is(t, "R5: an answer shares memory with another one: "+what, texts(a), must)
			wantAlone(t, what, a)
			a, _ = do()
			is(t, "P4: "+what+", once more", texts(a), must)
			if drawn(n) != before || drawnCode(p) != beforeCode {
				t.Fatalf("R5: what came out of %s shares memory with what was handed in", what)
			}
		}
		a, _ := trace.Walk(n, 500, 9)
		b, _ := trace.Machine(p, table, 500, 9)
		wipeTree(n)
		wipeCode(p)
		is(t, "R5: Walk keeps what was handed in", texts(a), must)
		is(t, "R5: Machine keeps what was handed in", texts(b), must)
	}
}

// wantAlone writes over one event of a list behind the other: those behind it stay.
func wantAlone(t *testing.T, what string, l []api.Event) {
	t.Helper()
	copied := ownList(l)
	for i := range l {
		wipe(l[i].Text)
		if i+1 < len(l) && l[i+1] != copied[i+1] {
			t.Fatalf("P3: %s: texts of two events are one: %v; must be %v", what, l[i+1], copied[i+1])
		}
	}
}

// An error's name is nobody else's; one that is changed changes no other one.
func TestErrorsKeepNothing(t *testing.T) {
	n := api.Node{Kind: api.NName, Text: own("name"), At: 4}
	_, err := trace.Walk(n, 5, 5)
	wipe(n.Text)
	is(t, "R5", told(err), `20 at 4 "name"`)
	n = ownTree(parsed(t, "func main() { print(nobody) }"))
	_, err = trace.Walk(n, 5, 5)
	wipeTree(n)
	is(t, "R5", told(err), `41 at 20 "nobody"`)
	_, table := compiled(t, parsed(t, "func main() { }"))
	for _, do := range []func() error{
		func() error { _, err := trace.Walk(api.Node{}, -1, 5); return err },
		func() error { _, err := trace.Machine(code.Program{}, table, -1, 5); return err },
		func() error { _, err := trace.Machine(code.Program{}, table, 1, 5); return err },
	} {
		err, again := do(), do()
		was := told(err)
		*again.(*api.Wrong) = api.Wrong{Code: 99}
		if told(err) != was || told(do()) != was {
			t.Error("P2: an error is not new")
		}
	}
}

// Differ, Lines and Calls change nothing of a list, look at nothing behind it, and keep nothing.
func TestListsAreNotKept(t *testing.T) {
	r := dice(71)
	for range 100 {
		a, b := ownList(grownList(r, 1+r.IntN(30))), ownList(grownList(r, 1+r.IntN(30)))
		s := own(grownText(r))
		beforeA, beforeB, beforeS := own(texts(a[:cap(a)])), own(texts(b[:cap(b)])), strings.Clone(s)
		must := fmt.Sprint(trace.Differ(a, b), linesOf(s, a), callsText(a))
		differ, lines, calls := trace.Differ(a, b), trace.Lines(s, a), trace.Calls(a)
		other, otherCalls := trace.Lines(s, a), trace.Calls(a)
		if texts(a[:cap(a)]) != beforeA || texts(b[:cap(b)]) != beforeB || s != beforeS {
			t.Fatalf("R5: what was handed in has changed: %s", texts(a[:cap(a)]))
		}
		for i := range other[:cap(other)] {
			other[:cap(other)][i] = -9
		}
		wipe(otherCalls)
		is(t, "R5: behind another answer was written over", fmt.Sprint(differ, lines, calls), must)
		is(t, "R5: what is handed in, then", texts(a[:cap(a)]), beforeA)
		is(t, "P4: once more", fmt.Sprint(trace.Differ(a, b), trace.Lines(s, a), trace.Calls(a)), must)
		wipeList(a)
		wipeList(b)
		wipe(s)
		is(t, "R5: behind what was handed in was written over", fmt.Sprint(differ, lines, calls), must)
	}
}

// A text that is written whole is not handed out.
func TestTextsAreNotHandedOut(t *testing.T) {
	name := own("name")
	got := trace.Calls([]api.Event{{Kind: 2, Text: name}})
	wipe(name)
	is(t, "R5", got, "1 name !\n")
	name = own("name")
	got = trace.Calls([]api.Event{{Kind: 2, Text: name}})
	wipe(got)
	is(t, "R5", name, "name")
}

// Lists of nothing may be nil or empty, or have room behind them.
func TestListsOfNothing(t *testing.T) {
	for _, l := range [][]api.Event{nil, {}, events("2@0:a 1@0")[:0]} {
		is(t, "P5", fmt.Sprint(trace.Differ(l, nil), trace.Differ(nil, l), trace.Lines("a\n", l), trace.Calls(l)), "-1 -1 [0 0]")
	}
}

// Calls know nothing of one another: several goroutines ask at one time of the same tree, code, table and lists.
func TestAtOneTime(t *testing.T) {
	n := parsed(t, keeping)
	p, table := compiled(t, n)
	must := ran(t, keeping, 500, 9)
	lines, calls := fmt.Sprint(trace.Lines(keeping, must)), trace.Calls(must)
	var all sync.WaitGroup
	for range 8 {
		all.Go(func() {
			a, _ := trace.Walk(n, 500, 9)
			b, _ := trace.Machine(p, table, 500, 9)
			if trace.Differ(a, must) != -1 || trace.Differ(b, must) != -1 || fmt.Sprint(trace.Lines(keeping, must)) != lines || trace.Calls(must) != calls {
				t.Error("P4: not the same at one time")
			}
		})
	}
	all.Wait()
}
