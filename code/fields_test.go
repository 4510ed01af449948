package code_test

import (
	"fmt"
	"math"
	"slices"
	"strings"
	"testing"

	"guise/api"
	"guise/code"
)

// The host is a literal that has all that an instruction may name: two slots, three taken variables, a literal of its own; the program
// has four variables, a declared function and literals that stand elsewhere.
const (
	host      = 3
	slots     = 2
	takens    = 3
	globals   = 4
	functions = 6
)

func hosted(l []code.Inst) code.Program {
	outer := declared("T.m", ends()...)
	outer.Params, outer.Slots = 1, 4
	in := literal(1, []int{0, 3, 0}, l...)
	in.Params, in.Slots = 1, slots
	return code.Program{
		Globals: []string{"a", "b", "c", "d"},
		Funcs: []code.Func{
			beginning(ends()...), outer, literal(1, []int{1}, ends()...), in,
			literal(host, []int{1, -1, -3}, ends()...), literal(4, []int{-1, -3}, ends()...),
		},
	}
}

// around is a program in whose host an instruction stands, behind what it takes; and its number. What it goes to (A -1 here) lies
// behind the end.
func around(in code.Inst, stack string) (code.Program, int) {
	l := pushed(stack)
	number := len(l)
	if goesTo(in.Op) && in.A == there {
		in.A = number + 3
	}
	l = append(l, in, null, ret, null, ret)
	return hosted(l), number
}

const there = -77 // as A: an instruction that finds what it needs

func goesTo(o code.Op) bool {
	return slices.Contains([]code.Op{code.OpJump, code.OpBranch, code.OpAnd, code.OpOr, code.OpNext}, o)
}

var (
	someNames = []string{"x", "T", "_", "a1", "list", "int", "pointer", "Any", "Map", "print", longName, "fault", "_0"}
	noNames   = []string{"", "1a", "a.b", "a b", " a", "a ", "é", "a\x00", "if", "true", "nil", "struct", tooLongName, "*T", "-", "a\n", "\x80"}
)

// field is an instruction's texts that may be, and some that may not, for each A that may be.
type field struct {
	op     code.Op
	stack  string // what it takes
	as     []int  // the A's that may be
	notAs  []int
	texts  []string // for all A's
	noText []string
}

func plain(o code.Op, stack string) field {
	return field{op: o, stack: stack, as: []int{0}, notAs: []int{1, -1, 2, 3}, texts: []string{""}, noText: []string{"x", "0", " ", "\x00"}}
}

func numbered(o code.Op, stack string, count int) field {
	f := plain(o, stack)
	f.as = nil
	for i := range count {
		f.as = append(f.as, i)
	}
	f.notAs = []int{-1, count, count + 1, 20000, -2}
	return f
}

func texted(o code.Op, stack string, right, not []string) field {
	f := plain(o, stack)
	f.texts, f.noText = right, not
	return f
}

// ranged has these as its A's; those ahead of the least and behind the greatest that may be with any Text may not.
func ranged(f field, least, greatest int, as ...int) field {
	f.as, f.notAs = as, []int{least - 1, greatest + 1}
	return f
}

func flagged(f field, as ...int) field { return ranged(f, 0, 1, as...) }

// fields are all rows of the table.
func fields() []field {
	return slices.Concat(plainFields(), numberedFields(), textFields(), typeFields(), nameFields(), countedFields())
}

func plainFields() []field {
	var out []field
	for o, stack := range map[code.Op]string{
		code.OpStep: "", code.OpTick: "", code.OpNil: "", code.OpPop: "v", code.OpDup: "v", code.OpIndex: "vv", code.OpIndexTwo: "vv",
		code.OpObject: "v", code.OpPlaceOf: "v", code.OpPlaceIndex: "vv", code.OpFetch: "p", code.OpPut: "pv", code.OpReturn: "v", code.OpTurn: "v",
	} {
		out = append(out, plain(o, stack))
	}
	for o, stack := range map[code.Op]string{code.OpJump: "", code.OpBranch: "v", code.OpAnd: "v", code.OpOr: "v", code.OpNext: "t"} {
		f := plain(o, stack)
		f.as, f.notAs = []int{there}, []int{-1, 0, 7, 8, 9, 100}
		out = append(out, f)
	}
	return append(out, flagged(plain(code.OpBool, ""), 0, 1))
}

func numberedFields() []field {
	return []field{
		numbered(code.OpLoad, "", slots), numbered(code.OpPlaceSlot, "", slots), numbered(code.OpFresh, "v", slots), numbered(code.OpStore, "v", slots),
		numbered(code.OpGlobal, "", globals), numbered(code.OpPlaceGlobal, "", globals), numbered(code.OpStoreGlobal, "v", globals),
		numbered(code.OpTaken, "", takens), numbered(code.OpPlaceTaken, "", takens), numbered(code.OpStoreTaken, "v", takens),
		{op: code.OpLiteral, as: []int{1, 4}, notAs: []int{-1, 0, 2, 3, 5, 6, 7}, texts: []string{""}, noText: []string{"x", "func"}},
	}
}

func textFields() []field {
	return []field{
		texted(code.OpInt, "", []string{"0", "1", "-1", "9", "10", "12345", "-100", "9223372036854775807", "-9223372036854775808", "9223372036854775806", "999999999999999999"},
			[]string{"", "-", "00", "01", "-0", "-01", "+1", "1a", "a", " 1", "1 ", "1.0", "1_0", "0x1", "1e3", "--1", "9223372036854775808", "-9223372036854775809", "10000000000000000000", "99999999999999999999", "٣", "1\x00", "18446744073709551616", strings.Repeat("9", 100), "0" + strings.Repeat("0", 100)}),
		texted(code.OpFloat, "", []string{"0000000000000000", "8000000000000000", "3ff0000000000000", "7ff0000000000000", "fff0000000000000", "7fefffffffffffff", "ffefffffffffffff", "0000000000000001", "7ff8000000000001", "abcdef0123456789"},
			[]string{"", "0", "000000000000000", "00000000000000000", "3FF0000000000000", "3ff000000000000g", "7ff8000000000000", "7ff8000000000002", "7ff0000000000001", "fff8000000000001", "fff0000000000001", "7fffffffffffffff", "ffffffffffffffff", "7FF8000000000001", " 3ff000000000000", "+3ff00000000000", "0x3ff00000000000", "1.5", "3ff_000000000000"}),
		texted(code.OpText, "", []string{"", "a", "\x00\xff\n\t\"\\ ", strings.Repeat("a", api.MaxText), strings.Repeat("\xff", api.MaxText)}, []string{strings.Repeat("a", api.MaxText+1), strings.Repeat("\x00", 2*api.MaxText)}),
		texted(code.OpUnary, "v", strings.Fields("- ! ^ * ++ --"), []string{"", "&", "+", "~", "&&", "- ", " -", "- !", "---", "-!", "not"}),
		texted(code.OpBinary, "vv", strings.Fields("+ - * / % & | ^ << >> == != < <= > >="), []string{"", "&&", "||", "=", "!", "++", "--", "<<=", "+=", "&^", "+ ", "+ -", "=>", "<<<", ":="}),
		texted(code.OpTruth, "v", []string{"&&", "||"}, []string{"", "&", "|", "&&&", "&& ||", "and", "!", " &&", "&& "}),
	}
}

func typeFields() []field {
	words := []string{"map", "func"}
	noType := slices.Concat(noNames, []string{"map ", "func any", "struct", "list ", "protocol"})
	noAny := append([]string{"any"}, noType...)
	return []field{
		flagged(texted(code.OpNilOf, "", slices.Concat(someNames, words), noAny), 0),
		flagged(texted(code.OpNilOf, "", someNames, slices.Concat(noAny, words)), 1),
		ranged(texted(code.OpConvert, "v", slices.Concat(someNames, words), noAny), api.KBool, api.KFunc, api.KBool, api.KInt, api.KFloat, api.KText, api.KList, api.KMap, api.KFunc),
		flagged(texted(code.OpAssert, "v", slices.Concat(someNames, words, []string{"any"}), noType), 0),
		flagged(texted(code.OpAssert, "v", someNames, slices.Concat(noAny, words)), 1),
		ranged(texted(code.OpHolds, "v", slices.Concat(someNames, words, []string{"any"}), noType), 0, 2, 0),
		ranged(texted(code.OpHolds, "v", someNames, slices.Concat(noAny, words)), 0, 2, 1),
		ranged(texted(code.OpHolds, "v", []string{""}, []string{"nil", "any", "T", " ", "map"}), 0, 2, 2),
	}
}

func nameFields() []field {
	two := []string{"T m", "_ _", "a a", longName + " " + longName, "list len"}
	noTwo := []string{"", "T", "T  m", "T m ", " T m", "T m n", "T.m", "T\tm", "any m", "T if", "map m", "func m", tooLongName + " m", "m " + tooLongName, "T m\n", "*T m", " ", "  "}
	return []field{
		flagged(texted(code.OpSelect, "v", someNames, append([]string{"map", "any", "func"}, noNames...)), 0, 1),
		flagged(texted(code.OpExpression, "", two, noTwo), 0, 1),
		texted(code.OpPlaceField, "v", someNames, append([]string{"map", "any", "func"}, noNames...)),
		texted(code.OpPlaceField, "p", someNames, append([]string{"map", "any", "func"}, noNames...)),
		ranged(texted(code.OpStruct, "", []string{"T", "_", longName}, append([]string{"T f", "map", "any"}, noNames...)), 0, 0, 0),
		ranged(texted(code.OpStruct, "v", []string{"T f", "T T", longName + " " + longName, "_ _"}, noTwo[:5]), 1, 1, 1),
		ranged(texted(code.OpStruct, "vv", []string{"T f g", "T T U", "f g h", "T F f"}, []string{"T f f", "T f", "T f g h", "T f  g", "T f g ", " T f g", "T f,g", "T f if", "T func f", "if f g", "T T T", "T f " + tooLongName, ""}), 2, 2, 2),
		ranged(texted(code.OpStruct, strings.Repeat("v", api.MaxFields), []string{fieldNames(api.MaxFields)}, []string{fieldNames(api.MaxFields - 1), fieldNames(api.MaxFields + 1), fieldNames(api.MaxFields-1) + " f0", fieldNames(api.MaxFields-1) + " f28"}), api.MaxFields, api.MaxFields, api.MaxFields),
	}
}

// fieldNames is T and so many names, each as long as it may be but the first two.
func fieldNames(n int) string {
	s := "T"
	for i := range n {
		name := fmt.Sprintf("f%d", i)
		if i > 1 && i < n-1 {
			name += "_" + longName[len(name)+1:]
		}
		s += " " + name
	}
	return s
}

func countedFields() []field {
	built := strings.Fields("append cap copy delete len make panic print recover show typeof")
	noBuilt := []string{"", "main", "Print", "print ", " len", "len cap", "int", "appen", "appendd", "error"}
	var out []field
	for n := range 4 {
		values := strings.Repeat("v", n)
		out = append(out, counted(plain(code.OpList, values), n), counted(plain(code.OpMap, values+values), n), counted(plain(code.OpCall, "v"+values), n), counted(plain(code.OpDefer, "v"+values), n),
			counted(plain(code.OpDrop, strings.Repeat("t", n)), n), counted(texted(code.OpBuilt, values, built, noBuilt), n), counted(texted(code.OpDeferBuilt, values, built, noBuilt), n))
	}
	return append(out, counted(plain(code.OpSlice, "vvv"), 2), counted(plain(code.OpSlice, "vvvv"), 3))
}

// counted has as A how many it takes; less and more may not be anywhere.
func counted(f field, a int) field {
	f.as, f.notAs = []int{a}, []int{-1, api.MaxNodes + 1, math.MaxInt, math.MinInt}
	if f.op == code.OpSlice {
		f.notAs = []int{-1, 0, 1, 4, 5}
	}
	return f
}

func (f field) inst(a int, s string) code.Inst { return code.Inst{Op: f.op, A: a, Text: s, At: 7} }

func (f field) what(in code.Inst) string {
	return fmt.Sprintf("%s %d %d %d %q behind %q", cells[in.Op][0], in.A, in.B, in.At, brief(in.Text), f.stack)
}

// want: the program around an instruction is right, or the instruction itself is told.
func (f field) want(t *testing.T, in code.Inst, right bool) {
	t.Helper()
	p, number := around(in, f.stack)
	must := "ok"
	if !right {
		must = wrongCode(host, number)
	}
	wantRight(t, f.what(in), p, must)
	if got := modelRight(p); got != must {
		t.Errorf("the model: %s: %s; must be %s", f.what(in), got, must)
	}
}

// Each row with each of its fields as it may be, and each by itself as it may not.
func TestFields(t *testing.T) {
	seen := map[code.Op]int{}
	for _, f := range fields() {
		seen[f.op]++
		for _, a := range f.as {
			for _, s := range f.texts {
				f.want(t, f.inst(a, s), true)
			}
			for _, s := range f.noText {
				f.want(t, f.inst(a, s), false)
			}
			f.wantTurned(t, f.inst(a, f.texts[0]))
		}
		for _, a := range f.notAs {
			f.want(t, f.inst(a, f.texts[0]), false)
		}
		f.want(t, f.inst(math.MaxInt, f.texts[0]), false)
		f.want(t, f.inst(math.MinInt, f.texts[0]), false)
	}
	for _, o := range operations {
		if seen[o.op] == 0 {
			t.Errorf("%s is not asked", o.name)
		}
	}
}

// wantTurned turns B and At of a right instruction.
func (f field) wantTurned(t *testing.T, in code.Inst) {
	t.Helper()
	for _, b := range []int{1, -1, 2, 3, 4, math.MaxInt, math.MinInt} {
		turned := in
		turned.B = b
		if f.op != code.OpSlice {
			f.want(t, turned, false)
		}
	}
	for at, right := range map[int]bool{0: true, 1: true, api.MaxSource - 1: true, api.MaxSource: true, api.MaxSource + 1: false, -1: false, math.MaxInt: false, math.MinInt: false} {
		turned := in
		turned.At = at
		f.want(t, turned, right)
	}
}

// What a slice leaves out it does not take; of three bounds only the first one may be left out.
func TestSlice(t *testing.T) {
	for _, c := range []struct {
		a, b  int
		stack string
	}{
		{2, 0, "vvv"}, {2, 1, "vv"}, {2, 2, "vv"}, {2, 3, "v"}, {3, 0, "vvvv"}, {3, 1, "vvv"},
	} {
		f := plain(code.OpSlice, c.stack)
		in := code.Inst{Op: code.OpSlice, A: c.a, B: c.b}
		f.want(t, in, true)
		f.stack = c.stack[1:]
		f.want(t, in, false)
	}
	for _, in := range []code.Inst{{A: 3, B: 2}, {A: 3, B: 3}, {A: 2, B: 4}, {A: 2, B: -1}, {A: 3, B: -1}, {A: 3, B: 4}, {A: 2, B: 5}, {A: 2, B: 7}, {A: 1, B: 0}, {A: 0, B: 0}, {A: 4, B: 0}, {A: 2, B: math.MinInt}, {A: 3, B: math.MinInt + 1}} {
		in.Op = code.OpSlice
		plain(code.OpSlice, "vvvvv").want(t, in, false)
	}
}

// An operation that there is none of is wrong, whatever else stands there.
func TestNoOperation(t *testing.T) {
	for _, o := range []code.Op{0, -1, 54, 55, 64, 127, 128, 256 + 1, math.MaxInt, math.MinInt} {
		p, number := around(op(o), "")
		wantRight(t, fmt.Sprint("the operation ", int(o)), p, wrongCode(host, number))
	}
}

// A literal of another function, or the beginning, is none that an instruction may make.
func TestLiterals(t *testing.T) {
	for k := range functions {
		for a := -1; a <= functions; a++ {
			p := hosted(ends())
			p.Funcs[k].Code = []code.Inst{to(code.OpLiteral, a), ret}
			must := wrongCode(k, 0)
			if a == 1 || a > 1 && a < functions && p.Funcs[a].Around == k {
				must = "ok"
			}
			wantRight(t, fmt.Sprintf("literal %d in %d", a, k), p, must)
		}
	}
}

// A struct has as many fields as may be, and no more, though all of them lie there and are named.
func TestManyFields(t *testing.T) {
	for n, right := range map[int]bool{api.MaxFields - 1: true, api.MaxFields: true, api.MaxFields + 1: false, api.MaxFields + 2: false, 100: false} {
		plain(code.OpStruct, strings.Repeat("v", n)).want(t, text(code.OpStruct, n, fieldNames(n)), right)
	}
}
