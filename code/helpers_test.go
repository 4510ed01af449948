package code_test

import (
	"errors"
	"fmt"
	"math/rand/v2"
	"slices"
	"strconv"
	"strings"
	"testing"

	"guise/api"
	"guise/code"
)

// told writes an error: its code, place and name; "ok" if it is nil itself.
func told(err error) string {
	if err == nil {
		return "ok"
	}
	w, is := err.(*api.Wrong)
	if !is || w == nil || !errors.Is(err, w.Code) {
		return "an error of another type"
	}
	return wrong(w.Code, w.At, w.Name)
}

func wrong(code api.Errno, at int, name string) string {
	return strings.TrimSpace(fmt.Sprint(int(code), " ", at, " ", name))
}

// wrongCode is what is told of an instruction of a function.
func wrongCode(function, instruction int) string {
	return wrong(api.ErrCode, function, strconv.Itoa(instruction))
}

func is(t testing.TB, what, got, must string) {
	t.Helper()
	if got != must {
		t.Errorf("%s: %s; must be %s", what, brief(got), brief(must))
	}
}

// wantRight holds what Right tells against what must be told; Encode and List tell the same, and nothing beside it.
func wantRight(t testing.TB, what string, p code.Program, must string) {
	t.Helper()
	is(t, "P13.1: "+what, told(code.Right(p)), must)
	b, berr := code.Encode(p)
	is(t, "P13.3: Encode: "+what, told(berr), must)
	s, serr := code.List(p)
	is(t, "P13.4: List: "+what, told(serr), must)
	if must != "ok" && (b != "" || s != "") {
		t.Errorf("P2: %s: bytes or lines beside an error", what)
	}
}

// encoded and listed are bytes and lines of a program that is right.
func encoded(t testing.TB, p code.Program) string {
	t.Helper()
	b, err := code.Encode(p)
	if err != nil {
		t.Fatalf("P13.3: Encode: %v of\n%s", err, brief(written(p)))
	}
	return b
}

func listed(t testing.TB, p code.Program) string {
	t.Helper()
	s, err := code.List(p)
	if err != nil {
		t.Fatalf("P13.4: List: %v of\n%s", err, brief(written(p)))
	}
	return s
}

// decode and read write what comes of bytes and lines: an error, or the program.
func decode(t testing.TB, b string) string {
	t.Helper()
	return answered(t, b)(code.Decode(b))
}

func read(t testing.TB, s string) string {
	t.Helper()
	return answered(t, s)(code.Read(s))
}

func answered(t testing.TB, of string) func(code.Program, error) string {
	return func(p code.Program, err error) string {
		t.Helper()
		if err == nil {
			return written(p)
		}
		if len(p.Funcs) > 0 || len(p.Globals) > 0 {
			t.Errorf("P2: %q: a program beside an error", brief(of))
		}
		return told(err)
	}
}

// written writes any program, right or not, each unlike all others.
func written(p code.Program) string {
	var out strings.Builder
	fmt.Fprintf(&out, "%q\n", p.Globals)
	for _, f := range p.Funcs {
		fmt.Fprintf(&out, "%q %d %d %v %d\n", f.Name, f.Params, f.Slots, f.Taken, f.Around)
		for i, in := range f.Code {
			fmt.Fprintf(&out, "\t%d: %d %d %d %q %d\n", i, in.Op, in.A, in.B, in.Text, in.At)
		}
	}
	return out.String()
}

func brief(s string) string {
	if len(s) > 1500 {
		return s[:1500] + fmt.Sprintf(".. (%d bytes)", len(s))
	}
	return s
}

// one is a program of one function with a slot.
func one(l ...code.Inst) code.Program {
	return code.Program{Funcs: []code.Func{{Slots: 1, Around: -1, Code: l}}}
}

func op(o code.Op) code.Inst { return code.Inst{Op: o} }

func to(o code.Op, a int) code.Inst { return code.Inst{Op: o, A: a} }

func text(o code.Op, a int, s string) code.Inst { return code.Inst{Op: o, A: a, Text: s} }

var (
	null = op(code.OpNil)
	ret  = op(code.OpReturn)
	pop  = op(code.OpPop)
	step = op(code.OpStep)
	tick = op(code.OpTick)
	yes  = to(code.OpBool, 1)
	turn = op(code.OpTurn)
)

func jump(a int) code.Inst { return to(code.OpJump, a) }

func branch(a int) code.Inst { return to(code.OpBranch, a) }

// times is a row of instructions, so often.
func times(n int, in ...code.Inst) []code.Inst {
	return slices.Repeat(in, n)
}

// inRow puts lists of instructions behind one another.
func inRow(l ...[]code.Inst) []code.Inst { return slices.Concat(l...) }

// ends is a function's code that does nothing.
func ends() []code.Inst { return []code.Inst{null, ret} }

func beginning(l ...code.Inst) code.Func { return code.Func{Around: -1, Code: l} }

func declared(name string, l ...code.Inst) code.Func {
	return code.Func{Name: name, Around: -1, Code: l}
}

func literal(around int, taken []int, l ...code.Inst) code.Func {
	return code.Func{Name: "func", Around: around, Taken: taken, Code: l}
}

func program(f ...code.Func) code.Program { return code.Program{Funcs: f} }

// apart is a program in memory of its own.
func apart(p code.Program) code.Program {
	out := code.Program{Globals: slices.Clone(p.Globals)}
	for _, f := range p.Funcs {
		f.Taken, f.Code = slices.Clone(f.Taken), slices.Clone(f.Code)
		out.Funcs = append(out.Funcs, f)
	}
	return out
}

// pushed lays things on a stack, from the bottom to the top.
func pushed(things string) []code.Inst {
	var out []code.Inst
	for _, c := range things {
		switch c {
		case 'v':
			out = append(out, null)
		case 'p':
			out = append(out, to(code.OpPlaceSlot, 0))
		case 't':
			out = append(out, to(code.OpList, 0), turn)
		}
	}
	return out
}

func dice(seed uint64) *rand.Rand { return rand.New(rand.NewPCG(seed, 13)) }

func oneOf[T any](r *rand.Rand, all ...T) T { return all[r.IntN(len(all))] }

// names of the edges of their lengths.
var (
	longName    = strings.Repeat("n", api.MaxName)
	tooLongName = strings.Repeat("n", api.MaxName+1)
)

const words = "any break case continue default defer else fallthrough false for func if in map nil protocol return struct switch true type var"
