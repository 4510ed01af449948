package code_test

import (
	"fmt"
	"math"
	"strings"
	"testing"

	"guise/api"
	"guise/code"
)

// wantProgram: what is told of a program; the model tells the same.
func wantProgram(t *testing.T, what string, p code.Program, must string) {
	t.Helper()
	wantRight(t, what, p, must)
	is(t, "the model: "+what, modelRight(p), must)
}

func TestGlobals(t *testing.T) {
	with := func(names ...string) code.Program {
		return code.Program{Globals: names, Funcs: []code.Func{beginning(ends()...)}}
	}
	for _, name := range someNames {
		wantProgram(t, "the variable "+name, with(name), "ok")
		wantProgram(t, "the variable "+name+" twice", with(name, name), "130 0")
		wantProgram(t, "the variable "+name+" twice, not one behind the other", with("before", name, "q", "r", name, "last"), "130 0")
	}
	for _, name := range append(noNames, strings.Fields(words)...) {
		wantProgram(t, fmt.Sprintf("the variable %q", name), with(name), "130 0")
		wantProgram(t, fmt.Sprintf("the variable %q behind others", name), with("a", "b", name, "c"), "130 0")
	}
	wantProgram(t, "variables that part in their letters' size", with("a", "A", "b", "B"), "ok")
}

// altered is a program with two declared functions and three literals, of which one function is changed. What the last one takes hangs
// on the first one's slots.
func altered(number int, change func(f *code.Func)) code.Program {
	method := declared("T.m", ends()...)
	method.Params, method.Slots = 2, 3
	plain := declared("f", ends()...)
	plain.Slots = 1
	outer := literal(1, []int{0, 2, 2}, ends()...)
	outer.Params, outer.Slots = 1, 2
	first := beginning(ends()...)
	first.Slots = 2
	p := program(first, method, plain, outer, literal(3, []int{1, -1, -3, 0}, ends()...), literal(0, []int{0, 1}, ends()...))
	if number == 0 {
		p.Funcs[5].Taken = nil
	}
	change(&p.Funcs[number])
	return p
}

// change is one of a function, and whether it may be: of the beginning, a declared function (2), a literal (4, of three taken
// variables and two slots around it), and a literal of the beginning (5).
type change struct {
	what                           string
	do                             func(f *code.Func)
	first, declared, literal, last bool
}

func named(s string) func(f *code.Func) { return func(f *code.Func) { f.Name = s } }

func within(n int) func(f *code.Func) { return func(f *code.Func) { f.Around = n } }

func taking(l ...int) func(f *code.Func) { return func(f *code.Func) { f.Taken = l } }

func sized(params, slots int) func(f *code.Func) {
	return func(f *code.Func) { f.Params, f.Slots = params, slots }
}

var changes = []change{
	{"as it is", func(f *code.Func) {}, true, true, true, true},
	{"no name", named(""), true, false, false, false},
	{"the name g", named("g"), false, true, false, false},
	{"the name func", named("func"), false, false, true, true},
	{"the name of another one", named("T.m"), false, false, false, false},
	{"the name T.n", named("T.n"), false, true, false, false},
	{"the name m", named("m"), false, true, false, false},
	{"a name of two dots", named("T.m.n"), false, false, false, false},
	{"a name of dots alone", named("."), false, false, false, false},
	{"a dot ahead", named(".m"), false, false, false, false},
	{"a dot behind", named("T."), false, false, false, false},
	{"a word", named("if"), false, false, false, false},
	{"a word ahead of the dot", named("func.m"), false, false, false, false},
	{"a word behind the dot", named("T.map"), false, false, false, false},
	{"a sign", named("-"), false, false, false, false},
	{"a blank", named("a b"), false, false, false, false},
	{"a pointer", named("*T.m"), false, false, false, false},
	{"the longest names", named(longName + "." + longName), false, true, false, false},
	{"a name that is too long", named(tooLongName), false, false, false, false},
	{"one ahead of the dot that is too long", named(tooLongName + ".m"), false, false, false, false},
	{"one behind the dot that is too long", named("T." + tooLongName), false, false, false, false},
	{"a very long name", named(strings.Repeat("a.", 100000)), false, false, false, false},
	{"around -1", within(-1), true, true, false, false},
	{"around -2", within(-2), false, false, false, false},
	{"around none that can be", within(math.MinInt), false, false, false, false},
	{"around 0", within(0), false, false, false, true},
	{"around itself", func(f *code.Func) { f.Around = 6 }, false, false, false, false},
	{"around far too many", within(math.MaxInt), false, false, false, false},
	{"nothing taken", taking(), true, true, true, true},
	{"an empty list of taken ones", taking([]int{}...), true, true, true, true},
	{"slot 0 taken", taking(0), false, false, true, true},
	{"slot 1 taken", taking(1), false, false, true, true},
	{"slot 2 taken", taking(2), false, false, false, false},
	{"a slot taken twice", taking(1, 0, 1), false, false, true, true},
	{"far too great a slot taken", taking(math.MaxInt), false, false, false, false},
	{"the first taken one taken", taking(-1), false, false, true, false},
	{"the third taken one taken", taking(-3), false, false, true, false},
	{"the fourth taken one taken", taking(-4), false, false, false, false},
	{"the least taken", taking(math.MinInt), false, false, false, false},
	{"the last one is wrong", taking(0, 1, 0, 1, 2), false, false, false, false},
	{"no slots", sized(0, 0), true, true, true, true},
	{"slots below 0", sized(0, -1), false, false, false, false},
	{"slots far below 0", sized(0, math.MinInt), false, false, false, false},
	{"a parameter", sized(1, 1), false, true, true, true},
	{"more parameters than slots", sized(2, 1), false, false, false, false},
	{"both below 0", sized(-1, -1), false, false, false, false},
	{"parameters below 0", sized(-1, 5), false, false, false, false},
	{"12 parameters", sized(12, 12), false, true, true, true},
	{"13 parameters", sized(13, 13), false, true, true, true},
	{"14 parameters", sized(14, 14), false, false, false, false},
	{"13 parameters of 12 slots", sized(13, 12), false, false, false, false},
	{"far too many parameters", sized(math.MaxInt, 20000), false, false, false, false},
}

func TestFunctions(t *testing.T) {
	for _, c := range changes {
		for number, may := range map[int]bool{0: c.first, 2: c.declared, 4: c.literal, 5: c.last} {
			must := "ok"
			if !may {
				must = wrong(api.ErrCode, number, "")
			}
			wantProgram(t, fmt.Sprintf("%s: of %d", c.what, number), altered(number, c.do), must)
		}
	}
}

// A literal stands in one ahead of it; what is taken is asked of that one.
func TestArounds(t *testing.T) {
	for around := -2; around < 8; around++ {
		for number := 1; number < 6; number++ {
			must := wrong(api.ErrCode, number, "")
			if 0 <= around && around < number {
				must = "ok"
			}
			l := program(beginning(ends()...), literal(0, nil, ends()...), literal(0, nil, ends()...), literal(0, nil, ends()...), literal(0, nil, ends()...), literal(0, nil, ends()...))
			l.Funcs[number].Around = around
			wantProgram(t, fmt.Sprintf("%d around %d", around, number), l, must)
		}
	}
}

// Of two declared functions with one name the second is told; a literal's name is no declared one's.
func TestNamesOfFunctionsTwice(t *testing.T) {
	f, g := declared("f", ends()...), declared("g", ends()...)
	m, n := declared("T.m", ends()...), declared("U.m", ends()...)
	lit := literal(0, nil, ends()...)
	b := beginning(ends()...)
	wantProgram(t, "none twice", program(b, f, g, m, n, lit, lit, lit), "ok")
	wantProgram(t, "one behind the other", program(b, f, f), "130 2")
	wantProgram(t, "with others between", program(b, f, g, lit, m, lit, f), "130 6")
	wantProgram(t, "a method", program(b, m, n, g, m), "130 4")
	wantProgram(t, "three", program(b, f, f, f), "130 2")
	wantProgram(t, "two and two", program(b, f, g, g, f), "130 3")
	wantProgram(t, "a variable's name", code.Program{Globals: []string{"f"}, Funcs: []code.Func{b, f}}, "ok")
}

// Literals within literals, each taking what the one around it took, and one of its slots.
func TestLiteralsWithinLiterals(t *testing.T) {
	p := program(beginning(ends()...), declared("f", to(code.OpLiteral, 2), ret))
	p.Funcs[1].Slots = 1
	for deep := range 50 {
		number := deep + 2
		l := literal(number-1, []int{0}, to(code.OpTaken, 0), pop, to(code.OpLiteral, number+1), ret)
		l.Slots = 1
		for i := range p.Funcs[number-1].Taken {
			l.Taken = append(l.Taken, -1-i)
		}
		p.Funcs = append(p.Funcs, l)
	}
	last := len(p.Funcs) - 1
	p.Funcs[last].Code = []code.Inst{to(code.OpTaken, 49), to(code.OpStoreTaken, 48), to(code.OpPlaceTaken, 47), null, op(code.OpPut), null, ret}
	wantProgram(t, "50 within one another", p, "ok")
	p.Funcs[last].Taken = append(p.Funcs[last].Taken, -51)
	wantProgram(t, "one more than there are", p, wrong(api.ErrCode, last, ""))
	p.Funcs[last].Taken[50] = -49
	wantProgram(t, "one twice", p, "ok")
	p.Funcs[last].Code[0].A = 51
	wantProgram(t, "one that is not taken", p, wrongCode(last, 0))
}
