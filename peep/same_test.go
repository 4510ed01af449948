package peep_test

import (
	"fmt"
	"slices"
	"strings"
	"testing"

	"guise/api"
	"guise/code"
	"guise/types"
)

var endNames = []string{"none", "done", "panic", "spent", "overflow", "full"}

// panicText is by which panic a run ended.
func (s story) panicText() string {
	p, is := s.err.(*api.Panicked)
	switch {
	case s.err == nil:
		return ""
	case !is:
		return "an error of another type: " + s.err.Error()
	case p.Cause == nil:
		return p.Shown
	}
	f, is := p.Cause.(*api.Fault)
	return fmt.Sprintf("%s %v %q %q", p.Shown, is, f.Word, f.More)
}

func sameOutcome(a, b api.Outcome) bool {
	return a.End == b.End && a.Steps == b.Steps && slices.Equal(a.Out, b.Out)
}

// same: two plays are alike in all that is told of them.
func (s story) same(o story) bool {
	return slices.EqualFunc(s.runs, o.runs, sameOutcome) && slices.Equal(s.events, o.events) && s.panicText() == o.panicText() && s.room == o.room
}

// String is all of it, but for the operations: the ends in the first lines, then the lines, then the events.
func (s story) String() string {
	var out strings.Builder
	for _, r := range s.runs {
		fmt.Fprintln(&out, endNames[r.End], r.Steps, "steps", len(r.Out), "lines")
	}
	fmt.Fprintln(&out, s.panicText(), "room", s.room)
	for _, line := range s.last().Out {
		fmt.Fprintf(&out, "%q\n", line)
	}
	for _, e := range s.events {
		fmt.Fprintf(&out, "%d at %d %q\n", e.Kind, e.At, e.Text)
	}
	return out.String()
}

// alike plays two programs, in pieces of fuel: the same comes of it.
func alike(t testing.TB, p, q code.Program, table *types.Table, depth int, pieces ...int) story {
	t.Helper()
	must, got := played(p, table, depth, pieces...), played(q, table, depth, pieces...)
	if !got.same(must) {
		t.Fatalf("S1.2: depth %d, fuels %v: %s\n%s\nbecame\n%s", depth, pieces, difference(got.String(), must.String()), brief(written(p)), brief(written(q)))
	}
	return must
}

// difference is the first line in which two texts are unlike.
func difference(got, must string) string {
	a, b := strings.Split(got, "\n"), strings.Split(must, "\n")
	for i := range max(len(a), len(b)) {
		if i >= len(a) || i >= len(b) || a[i] != b[i] {
			return fmt.Sprintf("line %d of what is told:\n%s\nmust be\n%s", i, brief(strings.Join(a[min(i, len(a)):min(i+3, len(a))], "\n")), brief(strings.Join(b[min(i, len(b)):min(i+3, len(b))], "\n")))
		}
	}
	return ""
}

// refused reads chapter 16's P16.1: why a machine would not take code that is right.
func refused(p code.Program, t *types.Table) string {
	for number, f := range p.Funcs {
		for i, in := range f.Code {
			if !such(t, in) {
				return fmt.Sprint("function ", number, " instruction ", i, " ", in.Text)
			}
		}
	}
	for _, name := range t.Names() {
		for _, pointer := range []bool{false, true} {
			for _, method := range t.Methods(name, pointer) {
				found := t.Find(name, pointer, method.Name)
				wants := func(f code.Func) bool {
					return f.Around == -1 && f.Name == found.Type+"."+method.Name && f.Params == found.Count+1
				}
				if found.Kind == api.FoundMethod && found.Type != "fault" && !slices.ContainsFunc(p.Funcs[1:], wants) {
					return found.Type + "." + method.Name
				}
			}
		}
	}
	return ""
}

// such: the types that an instruction names are those that it may name.
func such(t *types.Table, in code.Inst) bool {
	words := strings.Split(in.Text, " ")
	kind, known := t.Under(words[0])
	switch in.Op {
	case code.OpNilOf:
		return in.A == 0 && slices.Contains([]int{api.KList, api.KMap, api.KFunc}, kind) || in.A == 1 && kind == api.KStruct
	case code.OpConvert:
		return kind == in.A
	case code.OpExpression:
		return known && (in.A == 0 || kind == api.KStruct)
	case code.OpStruct:
		fields, _ := t.Fields(words[0])
		return kind == api.KStruct && !slices.ContainsFunc(words[1:], func(f string) bool { return !slices.Contains(fields, f) })
	case code.OpAssert, code.OpHolds:
		_, protocol := t.Wants(in.Text)
		return in.A == 0 && (known || protocol) || in.A == 1 && kind == api.KStruct || in.A == 2
	}
	return true
}
