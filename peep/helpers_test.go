package peep_test

import (
	"errors"
	"fmt"
	"math/rand/v2"
	"slices"
	"strings"
	"sync"
	"testing"

	"guise/api"
	"guise/code"
	"guise/parse"
	"guise/peep"
	"guise/types"
)

// told writes an error: its code, place and name; "ok" if it is nil itself.
func told(err error) string {
	if err == nil {
		return "ok"
	}
	w, is := err.(*api.Wrong)
	if !is || w == nil || !errors.Is(err, w.Code) {
		return "an error of another type"
	}
	return strings.TrimSpace(fmt.Sprint(int(w.Code), " ", w.At, " ", w.Name))
}

func brief(s string) string {
	if len(s) > 2500 {
		return s[:2500] + fmt.Sprintf(".. (%d bytes)", len(s))
	}
	return s
}

// written writes any program, right or not, each unlike all others.
func written(p code.Program) string {
	var out strings.Builder
	fmt.Fprintf(&out, "%q\n", p.Globals)
	for k, f := range p.Funcs {
		fmt.Fprintf(&out, "%d: %q %d %d %v %d\n", k, f.Name, f.Params, f.Slots, f.Taken, f.Around)
		for i, in := range f.Code {
			fmt.Fprintf(&out, "\t%d: %s\n", i, inst(in))
		}
	}
	return out.String()
}

// inst writes an instruction.
func inst(in code.Inst) string {
	return fmt.Sprintf("%s %d %d %q at %d", opNames[in.Op], in.A, in.B, in.Text, in.At)
}

var opNames = func() map[code.Op]string {
	out := map[code.Op]string{}
	names := "step tick int float text bool nil nilof load global taken fresh store storeglobal storetaken pop dup unary binary truth convert select expression index indextwo slice list map struct object literal assert holds jump branch and or placeslot placeglobal placetaken placeof placeindex placefield fetch put call built defer deferbuilt return turn next drop"
	for i, name := range strings.Fields(names) {
		out[code.OpStep+code.Op(i)] = name
	}
	return out
}()

// one is a program of one function with a slot.
func one(l ...code.Inst) code.Program {
	return code.Program{Funcs: []code.Func{{Slots: 1, Around: -1, Code: l}}}
}

// asked is a program whose beginning calls the code, with each of some values, and prints what it answers. What panics there is recovered.
func asked(l ...code.Inst) code.Program {
	begin := []code.Inst{step}
	for _, v := range []code.Inst{yes, no, num(5), null} {
		begin = append(begin, to(code.OpLiteral, 1), v, to(code.OpCall, 1), printed(1), pop)
	}
	return code.Program{Funcs: []code.Func{
		{Around: -1, Code: inRow(begin, ends())},
		{Around: -1, Name: "f", Params: 1, Slots: 1, Code: inRow([]code.Inst{to(code.OpLiteral, 2), to(code.OpDefer, 0)}, moved(2, l))},
		{Around: -1, Name: "caught", Code: []code.Inst{built("recover", 0), printed(1), ret}},
	}}
}

// moved is code that stands so many instructions further behind, each with a place of its own.
func moved(by int, l []code.Inst) []code.Inst {
	l = slices.Clone(l)
	for i := range l {
		l[i].At = 10 + i
		if goesTo(l[i].Op) {
			l[i].A += by
		}
	}
	return l
}

func goesTo(o code.Op) bool {
	return slices.Contains([]code.Op{code.OpJump, code.OpBranch, code.OpAnd, code.OpOr, code.OpNext}, o)
}

func op(o code.Op) code.Inst { return code.Inst{Op: o} }

func to(o code.Op, a int) code.Inst { return code.Inst{Op: o, A: a} }

func num(n int) code.Inst { return code.Inst{Op: code.OpInt, Text: fmt.Sprint(n)} }

func unary(s string) code.Inst { return code.Inst{Op: code.OpUnary, Text: s} }

func binary(s string) code.Inst { return code.Inst{Op: code.OpBinary, Text: s} }

func built(s string, n int) code.Inst { return code.Inst{Op: code.OpBuilt, A: n, Text: s} }

func printed(n int) code.Inst { return built("print", n) }

func jump(a int) code.Inst { return to(code.OpJump, a) }

func branch(a int) code.Inst { return to(code.OpBranch, a) }

var (
	null = op(code.OpNil)
	ret  = op(code.OpReturn)
	pop  = op(code.OpPop)
	step = op(code.OpStep)
	tick = op(code.OpTick)
	yes  = to(code.OpBool, 1)
	no   = to(code.OpBool, 0)
	load = op(code.OpLoad)
	loop = op(code.OpTurn)
)

const (
	unaries  = "- ! ^ * ++ --"
	binaries = "+ - * / % & | ^ << >> == != < <= > >="
)

// inRow puts lists of instructions behind one another.
func inRow(l ...[]code.Inst) []code.Inst { return slices.Concat(l...) }

func times(n int, in ...code.Inst) []code.Inst { return slices.Repeat(in, n) }

// ends is a function's code that does nothing.
func ends() []code.Inst { return []code.Inst{null, ret} }

// apart is a program in memory of its own.
func apart(p code.Program) code.Program {
	out := code.Program{Globals: slices.Clone(p.Globals)}
	for _, f := range p.Funcs {
		f.Taken, f.Code = slices.Clone(f.Taken), slices.Clone(f.Code)
		out.Funcs = append(out.Funcs, f)
	}
	return out
}

// count is how many instructions a program has.
func count(p code.Program) int {
	n := 0
	for _, f := range p.Funcs {
		n += len(f.Code)
	}
	return n
}

func dice(seed uint64) *rand.Rand { return rand.New(rand.NewPCG(seed, 15)) }

func oneOf[T any](r *rand.Rand, all ...T) T { return all[r.IntN(len(all))] }

// tableOf is the table of types of a program's text.
func tableOf(t testing.TB, s string) *types.Table {
	t.Helper()
	n, err := parse.Program(s)
	if err != nil {
		t.Fatalf("%v: %s", err, brief(s))
	}
	table, err := types.Make(n)
	if err != nil {
		t.Fatalf("%v: %s", err, brief(s))
	}
	return table
}

// noTypes is a table without types but those that are there from the beginning.
var noTypes = sync.OnceValue(func() *types.Table {
	n, _ := parse.Program("func main() { }")
	table, _ := types.Make(n)
	return table
})

// shorter is what Program makes of a right program, held against all promises that need no machine.
func shorter(t testing.TB, p code.Program) code.Program {
	t.Helper()
	before := apart(p)
	q, err := peep.Program(p)
	if err != nil {
		t.Fatalf("S1: an error of right code: %v\n%s", err, brief(written(before)))
	}
	if !code.Same(p, before) {
		t.Fatalf("P3: what was handed in has changed\n%s", brief(written(before)))
	}
	if wrong := broken(p, q); wrong != "" {
		t.Fatalf("%s\n%s\nbecame\n%s", wrong, brief(written(p)), brief(written(q)))
	}
	if again, err := peep.Program(q); err != nil || !code.Same(again, q) {
		t.Fatalf("S2: twice is not once (%v)\n%s\nbecame\n%s\nand then\n%s", err, brief(written(p)), brief(written(q)), brief(written(again)))
	}
	wantSaved(t, p, count(p)-count(q))
	wantSaved(t, q, 0)
	return q
}

func wantSaved(t testing.TB, p code.Program, must int) {
	t.Helper()
	if n, err := peep.Saved(p); n != must || err != nil {
		t.Fatalf("S3: %d, %v; must be %d\n%s", n, err, must, brief(written(p)))
	}
}

// becomes: the only function becomes just that.
func becomes(t *testing.T, what string, l, must []code.Inst) {
	t.Helper()
	q := shorter(t, one(l...))
	if got, want := written(q), written(one(must...)); got != want {
		t.Errorf("%s: %s\nmust be\n%s", what, brief(got), brief(want))
	}
	alikeAsked(t, l)
}

// alikeAsked: code does the same, made shorter, whatever it is asked with.
func alikeAsked(t *testing.T, l []code.Inst) {
	t.Helper()
	p, table := asked(l...), noTypes()
	q := shorter(t, p)
	whole := alike(t, p, q, table, 9, 40)
	for fuel := range min(whole.last().Steps, 16) {
		alike(t, p, q, table, 1+fuel%3, fuel)
		alike(t, p, q, table, 2, fuel, 0, 1, 2, 9)
	}
}
