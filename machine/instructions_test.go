package machine_test

import (
	"strconv"
	"strings"
	"testing"

	"guise/code"
	"guise/types"
)

// some is a table with types of all kinds, and small things of each.
const someTypes = `
type T struct { x; y }
type E struct { .T; z }
type Q struct { .*T; w }
type V struct { .P }
type W struct { .A1; .A2 }
type A1 struct { u }
type A2 struct { u }
type Z struct { }
type K = int
type L = list
type M = map
type F = func
type B = bool
type D = float
type S = text
protocol P { m(0) }
func (t T) m() { }
func (t *T) set(n) { }
func (k K) m() { }
`

// its are the methods' code: m answers its receiver, set lays something down in its x.
var its = []string{
	"T.m 1 1 -1::step @101; load 0; return",
	"T.set 2 2 -1::step @102; placeslot 0; placefield 'x'; load 1; put; load 0; return",
	"K.m 1 1 -1::load 0; return",
	"caught 0 0 -1::built 0 'recover'; built 1 'print'; return",
	"two 2 3 -1::load 1; load 0; list 2; return",
	"func 0 1 0:0 2:taken 0; taken 1; list 2; return",
}

// answers is a program that prints what code leaves, and its type.
func answers(s string) code.Program {
	return with(begins(s+"; dup; built 1 'typeof'; built 2 'print'; return"), its...)
}

type asked struct{ code, must string }

func ask(t *testing.T, table *types.Table, rows []asked) {
	t.Helper()
	for _, row := range rows {
		must := row.must
		if !strings.Contains(must, "!") {
			must = "| " + must
		}
		p := answers(row.code)
		got := ended(made(t, p, table, 9).Run(99))
		_, got, _ = strings.Cut(got, " ")
		got = strings.TrimLeft(got, "0123456789 ")
		is(t, "P16: "+row.code, got, must)
		asModel(t, p, table, 9, 99)
	}
}

func TestConstants(t *testing.T) {
	ask(t, tableOf(t, someTypes), []asked{
		{"int '-9223372036854775808'", "-9223372036854775808 int"},
		{"int '9223372036854775807'", "9223372036854775807 int"},
		{"float '8000000000000000'", "0x8000000000000000 float"},
		{"float '7ff8000000000001'", "nan float"},
		{"text ''", " text"},
		{"text 'a\xff'", "a\xff text"},
		{"bool 0", "false bool"},
		{"bool 1", "true bool"},
		{"nil", "nil nil"},
		{"nilof 0 'list'", "nil(list) list"},
		{"nilof 0 'M'", "nil(M) M"},
		{"nilof 0 'F'", "nil(F) F"},
		{"nilof 1 'T'", "nil(*T) *T"},
	})
}

func TestVariables(t *testing.T) {
	ask(t, noTypesWithMethods(t), []asked{
		{"load 3", "nil nil"}, // a slot without a variable
		{"int '5'; store 3; load 3", "5 int"},
		{"int '5'; fresh 3; load 3", "5 int"},
		{"global 1", "nil nil"},
		{"int '5'; storeglobal 1; global 1", "5 int"},
		{"placeslot 3; int '7'; put; load 3", "7 int"},
		{"placeslot 3; fetch; list 1; put; load 3", "[nil] list"},
		{"placeglobal 0; int '7'; put; global 0", "7 int"},
		{"placeslot 3; int '1'; fresh 3; int '2'; put; load 3", "1 int"},          // the place is the variable of before
		{"placeslot 3; int '1'; store 3; fetch; list 1; put; load 3", "[1] list"}, // the same variable
		{"int '1'; int '2'; pop", "1 int"},
		{"int '4'; dup; list 2", "[4, 4] list"},
		{"struct 0 'T'; dup; fresh 0; placeslot 0; placefield 'x'; int '1'; put; load 0; list 2", "[T{x: nil, y: nil}, T{x: 1, y: nil}] list"},
	})
}

func noTypesWithMethods(t *testing.T) *types.Table {
	t.Helper()
	return tableOf(t, someTypes)
}

func TestUnary(t *testing.T) {
	ask(t, tableOf(t, someTypes), []asked{
		{"int '-9223372036854775808'; unary '-'", "-9223372036854775808 int"},
		{"int '9223372036854775807'; unary '++'", "-9223372036854775808 int"},
		{"int '-9223372036854775808'; unary '--'", "9223372036854775807 int"},
		{"int '4'; convert 2 'K'; unary '++'", "K(5) K"},
		{"bool 1; unary '!'", "false bool"},
		{"int '0'; unary '^'", "-1 int"},
		{"float '3ff0000000000000'; unary '-'", "0xbff0000000000000 float"},
		{"struct 0 'T'; object; unary '*'", "T{x: nil, y: nil} T"},
		{"text 'a'; unary '-'", "! operand - text"},
		{"nil; unary '!'", "! operand ! nil"},
		{"float '0000000000000000'; unary '^'", "! operand ^ float"},
		{"nilof 1 'T'; unary '*'", "! nil pointer"},
		{"nil; unary '*'", "! operand * nil"},
		{"int '1'; unary '*'", "! operand * int"},
		{"struct 0 'T'; unary '*'", "! operand * T"},
		{"float '0000000000000000'; unary '++'", "! operand ++ float"},
		{"nil; unary '--'", "! operand -- nil"},
		{"nilof 1 'T'; unary '++'", "! operand ++ *T"},
	})
}

func TestBinary(t *testing.T) {
	ask(t, tableOf(t, someTypes), []asked{
		{"int '7'; int '2'; binary '-'", "5 int"}, // w and v
		{"int '-7'; int '2'; binary '/'", "-3 int"},
		{"int '-7'; int '2'; binary '%'", "-1 int"},
		{"text 'a'; text 'b'; binary '+'", "ab text"},
		{"text 'a'; text 'b'; binary '<'", "true bool"},
		{"int '1'; int '1'; binary '=='", "true bool"},
		{"int '1'; int '1'; binary '!='", "false bool"},
		{"int '1'; text '1'; binary '=='", "false bool"},
		{"int '1'; convert 2 'K'; int '1'; binary '=='", "false bool"},
		{"nil; nil; binary '=='", "true bool"},
		{"nil; nilof 1 'T'; binary '=='", "false bool"},
		{"nilof 1 'T'; nilof 1 'T'; binary '=='", "true bool"},
		{"nilof 1 'T'; nilof 1 'E'; binary '=='", "false bool"},
		{"struct 0 'T'; object; struct 0 'T'; object; binary '=='", "false bool"},
		{"struct 0 'T'; object; dup; binary '=='", "true bool"},
		{"float '7ff8000000000001'; dup; binary '=='", "false bool"},
		{"float '0000000000000000'; float '8000000000000000'; binary '=='", "true bool"},
		{"int '1'; list 0; struct 2 'T x y'; int '2'; list 0; struct 2 'T x y'; binary '=='", "false bool"},
		{"int '1'; list 0; struct 2 'T x y'; int '1'; list 0; struct 2 'T x y'; binary '=='", "! compare list"},
		{"list 0; list 0; binary '!='", "! compare list"},
		{"map 0; nilof 0 'map'; binary '=='", "! compare map"},
		{"literal 4; literal 4; binary '=='", "! compare func"},
		{"nilof 0 'L'; dup; binary '=='", "! compare L"},
		{"list 0; map 0; binary '=='", "false bool"},
		{"int '7'; int '0'; binary '/'", "! divide"},
		{"int '7'; int '0'; binary '%'", "! divide"},
		{"int '7'; int '-1'; binary '<<'", "! count -1"},
		{"int '1'; int '2'; convert 2 'K'; binary '+'", "! operand + int K"},
		{"bool 1; bool 1; binary '<'", "! operand < bool bool"},
		{"nil; nilof 1 'T'; binary '+'", "! operand + nil *T"},
	})
}

func TestTruthAndBranches(t *testing.T) {
	ask(t, tableOf(t, someTypes), []asked{
		{"bool 1; truth '&&'", "true bool"},
		{"int '1'; truth '&&'", "! operand && bool int"},
		{"nil; truth '||'", "! operand || bool nil"},
		{"bool 1; convert 1 'B'; truth '||'", "! operand || bool B"},
		{"bool 0; and 3; nil", "false bool"},
		{"bool 1; and 3; nil", "nil nil"},
		{"bool 1; or 3; nil", "true bool"},
		{"bool 0; or 3; nil", "nil nil"},
		{"int '1'; and 3; nil", "! operand && int"},
		{"nil; or 3; nil", "! operand || nil"},
		{"bool 1; convert 1 'B'; and 4; nil", "! operand && B"},
		{"bool 0; branch 4; int '1'; jump 5; int '2'", "2 int"},
		{"bool 1; branch 4; int '1'; jump 5; int '2'", "1 int"},
		{"bool 0; convert 1 'B'; branch 5; int '1'; jump 6; int '2'", "2 int"}, // of kind bool
		{"nil; branch 4; int '1'; jump 5; int '2'", "! bool nil"},
		{"int '0'; branch 4; int '1'; jump 5; int '2'", "! bool int"},
		{"nilof 1 'T'; branch 4; int '1'; jump 5; int '2'", "! bool *T"},
	})
}

func TestConversions(t *testing.T) {
	ask(t, tableOf(t, someTypes), []asked{
		{"int '3'; convert 2 'K'", "K(3) K"},
		{"int '3'; convert 2 'K'; convert 2 'int'", "3 int"},
		{"int '3'; convert 3 'D'", "D(0x4008000000000000) D"},
		{"float '7ff8000000000001'; convert 2 'int'", "-9223372036854775808 int"},
		{"text 'a'; convert 4 'S'", `S("a") S`},
		{"bool 1; convert 1 'B'", "B(true) B"},
		{"int '1'; list 1; convert 5 'L'", "L([1]) L"},
		{"nilof 0 'list'; convert 5 'L'", "nil(L) L"},
		{"map 0; convert 6 'M'", "M(map{}) M"},
		{"literal 4; convert 7 'F'", "F(func) F"},
		{"literal 5; convert 7 'F'; int '1'; int '2'; call 2", "[2, 1] list"},
		{"list 0; convert 5 'L'; dup; int '1'; built 2 'append'", "L([1]) L"},
		{"nil; convert 2 'K'", "! operand K nil"},
		{"text '1'; convert 2 'int'", "! operand int text"},
		{"int '1'; convert 4 'text'", "! operand text int"},
		{"struct 0 'T'; convert 5 'L'", "! operand L T"},
		{"nilof 1 'T'; convert 7 'func'", "! operand func *T"},
		{"list 0; convert 6 'M'", "! operand M list"},
	})
}

func TestIndexes(t *testing.T) {
	ask(t, tableOf(t, someTypes), []asked{
		{"int '4'; int '5'; list 2; int '1'; index", "5 int"},
		{"int '4'; int '5'; list 2; int '1'; convert 2 'K'; index", "5 int"},
		{"text 'ab'; int '1'; index", "98 int"},
		{"int '1'; text 'x'; map 1; int '1'; index", "x text"},
		{"int '1'; text 'x'; map 1; int '2'; index", "nil nil"},
		{"nilof 0 'map'; int '2'; index", "nil nil"},
		{"list 0; int '0'; index", "! range index 0 of 0"},
		{"nilof 0 'list'; int '-1'; index", "! range index -1 of 0"},
		{"text 'ab'; int '2'; index", "! range index 2 of 2"},
		{"map 0; list 0; index", "! key list"},
		{"nilof 0 'M'; literal 4; index", "! key func"},
		{"list 0; text 'a'; index", "! operand [] list text"},
		{"int '1'; text 'a'; index", "! operand [] int text"},
		{"nil; nil; index", "! operand [] nil nil"},
		{"struct 0 'T'; object; int '1'; index", "! operand [] *T int"},
		{"int '1'; text 'x'; map 1; int '1'; indextwo; list 2", `["x", true] list`},
		{"map 0; int '1'; indextwo; list 2", "[nil, false] list"},
		{"nilof 0 'map'; int '1'; indextwo; list 2", "[nil, false] list"},
		{"list 0; list 0; indextwo; list 2", "! operand [] list list"},
		{"nil; int '1'; indextwo; list 2", "! operand [] nil int"},
		{"map 0; map 0; indextwo; list 2", "! key map"},
	})
}

func TestSlices(t *testing.T) {
	three := "int '1'; int '2'; int '3'; list 3; "
	ask(t, tableOf(t, someTypes), []asked{
		{three + "int '1'; int '2'; slice 2", "[2] list"},
		{three + "int '1'; slice 2 /2", "[2, 3] list"},
		{three + "int '1'; slice 2 /1", "[1] list"},
		{three + "slice 2 /3", "[1, 2, 3] list"},
		{three + "int '1'; int '2'; int '3'; slice 3; built 1 'cap'", "2 int"},
		{three + "int '2'; int '2'; slice 3 /1; built 1 'cap'", "2 int"},
		{three + "int '0'; int '1'; slice 2; int '0'; int '3'; slice 2", "[1, 2, 3] list"}, // up to the capacity
		{"text 'abc'; int '1'; int '2'; slice 2", "b text"},
		{"text 'abc'; convert 4 'S'; int '1'; slice 2 /2", `S("bc") S`},
		{"nilof 0 'L'; slice 2 /3", "nil(L) L"},
		{"nilof 0 'list'; int '0'; int '0'; int '0'; slice 3", "nil(list) list"},
		{three + "int '2'; int '1'; slice 2", "! range slice 2 1 of 3"},
		{three + "int '0'; int '4'; slice 2", "! range slice 0 4 of 3"},
		{three + "int '-1'; slice 2 /2", "! range slice -1 3 of 3"},
		{three + "int '0'; int '1'; int '4'; slice 3", "! range slice 0 1 4 of 3"},
		{three + "int '0'; int '3'; int '2'; slice 3", "! range slice 0 3 2 of 3"},
		{three + "int '2'; int '1'; slice 3 /1", "! range slice 0 2 1 of 3"},
		{"nilof 0 'list'; int '0'; int '1'; slice 2", "! range slice 0 1 of 0"},
		{"text 'abc'; int '1'; int '4'; slice 2", "! range slice 1 4 of 3"},
		{"text 'abc'; int '1'; int '2'; int '3'; slice 3", "! operand [:] text"},
		{"nil; slice 2 /3", "! operand [:] nil"},
		{"map 0; text 'a'; slice 2 /2", "! operand [:] map"},
		{three + "text 'a'; slice 2 /2", "! operand [:] list text"},
		{three + "int '9'; nil; slice 2", "! operand [:] list nil"},
		{three + "nil; text 'a'; slice 2", "! operand [:] list nil"},
		{"text 'abc'; nil; slice 2 /1", "! operand [:] text nil"},
		{three + "int '0'; int '0'; nilof 1 'T'; slice 3", "! operand [:] list *T"},
	})
}

func TestMade(t *testing.T) {
	ask(t, tableOf(t, someTypes), []asked{
		{"int '1'; nil; list 2", "[1, nil] list"},
		{"list 0; dup; built 1 'cap'; list 2", "[[], 0] list"},
		{"int '1'; text 'a'; int '2'; text 'b'; int '1'; text 'c'; map 3", `map{1: "c", 2: "b"} map`},
		{"int '1'; text 'a'; list 0; text 'b'; map 2", "! key list"},
		{"int '3'; int '4'; struct 2 'T y x'", "T{x: 4, y: 3} T"},
		{"struct 0 'E'", "E{T: T{x: nil, y: nil}, z: nil} E"},
		{"struct 0 'Q'", "Q{T: nil(*T), w: nil} Q"},
		{"int '1'; struct 1 'E T'", "! conversion int is not T"},
		{"nil; struct 1 'E T'", "! conversion nil is not T"},
		{"struct 0 'T'; struct 1 'Q T'", "! conversion T is not *T"},
		{"nilof 1 'T'; struct 1 'E T'", "! conversion *T is not T"},
		{"nil; struct 1 'V P'", "V{P: nil} V"},
		{"int '1'; struct 1 'V P'", "! conversion int is not P: no m"},
		{"struct 0 'T'; struct 1 'V P'", "V{P: T{x: nil, y: nil}} V"},
		{"nilof 1 'T'; struct 1 'V P'", "V{P: nil(*T)} V"},
		{"text 'w'; struct 1 'fault word'; object", `&fault{word: "w", more: nil} *fault`},
		{"struct 0 'T'; object", "&T{x: nil, y: nil} *T"},
		{"int '1'; object", "! operand & int"},
		{"nil; object", "! operand & nil"},
		{"nilof 1 'T'; object", "! operand & *T"},
		{"literal 5", "func func"},
		{"literal 5; int '8'; int '9'; call 2", "[9, 8] list"},
		{"int '8'; store 0; literal 6; int '9'; store 0; int '7'; store 2; call 0", "[9, 7] list"},
	})
}

// A struct is too large, where it is made: all parts may stand there first.
func TestSizes(t *testing.T) {
	table := tableOf(t, someTypes)
	big := "struct 0 'T'; " + strings.Repeat("dup; struct 2 'T x y'; ", 4) // 3, 7, 15, 31, 63
	ask(t, table, []asked{
		{big + "built 1 'typeof'", "T text"},
		{big + "dup; struct 2 'T x y'", "! count 127"},
		{big + "nil; struct 2 'E z T'", "! conversion nil is not T"},
		{big + "dup; struct 1 'T x'; struct 2 'E z T'", "! count 129"},
		{big + "dup; fresh 0; fresh 1; placeslot 0; placefield 'x'; load 1; put; nil", "nil nil"},
		{big + "dup; fresh 0; fresh 1; placeslot 0; placefield 'x'; load 1; put; placeslot 0; placefield 'y'; load 1; put; nil", "! count 127"},
		{big + "fresh 0; load 0; struct 1 'T x'; object; fresh 1; load 1; placefield 'y'; load 0; put; nil", "! count 127"},
	})
}

func TestSelect(t *testing.T) {
	e := "int '5'; struct 1 'T x'; int '6'; struct 2 'E T z'; "
	ask(t, tableOf(t, someTypes), []asked{
		{e + "select 0 'x'", "5 int"},
		{e + "object; select 0 'x'", "5 int"},
		{e + "select 0 'T'", "T{x: 5, y: nil} T"},
		{e + "select 0 'm'; call 0", "T{x: 5, y: nil} T"},
		{e + "object; fresh 0; load 0; select 0 'm'; load 0; placefield 'x'; int '9'; put; call 0", "T{x: 5, y: nil} T"},
		{e + "object; fresh 0; load 0; select 0 'set'; int '7'; call 1; pop; load 0", "&E{T: T{x: 7, y: nil}, z: 6} *E"},
		{e + "select 0 'set'", "! missing set of E"},
		{"int '4'; convert 2 'K'; select 0 'm'; call 0", "K(4) K"},
		{"nil; select 0 'x'", "! nil field x"},
		{"nil; select 1 'm'", "! nil field m"},
		{"int '1'; select 0 'm'", "! missing m of int"},
		{"struct 0 'W'; select 0 'u'", "! missing u of W twice"},
		{"struct 0 'W'; object; select 0 'u'", "! missing u of *W twice"},
		{"nilof 1 'T'; select 0 'x'", "! nil field x"},
		{"nilof 1 'T'; select 0 'm'", "! nil method m"},
		{"nilof 1 'T'; select 0 'set'; int '1'; call 1", "! nil field x"},
		{"nilof 1 'E'; select 0 'set'", "! nil method set"},
		{"struct 0 'Q'; select 0 'x'", "! nil field x"},
		{"struct 0 'Q'; select 0 'm'", "! nil method m"},
		{"struct 0 'Q'; select 0 'set'", "func func"},
		{"struct 0 'V'; select 0 'm'", "! nil method m"},
		{"int '3'; convert 2 'K'; struct 1 'V P'; select 0 'm'; call 0", "K(3) K"},
		{"nilof 1 'T'; struct 1 'V P'; select 0 'm'", "! nil method m"},
		{"struct 0 'T'; struct 1 'V P'; struct 1 'V P'; object; select 1 'm'; call 0", "T{x: nil, y: nil} T"},
	})
}

func TestExpressions(t *testing.T) {
	ask(t, tableOf(t, someTypes), []asked{
		{"expression 0 'T m'; int '1'; struct 1 'T x'; call 1", "T{x: 1, y: nil} T"},
		{"expression 1 'T set'; struct 0 'T'; object; int '2'; call 2", "&T{x: 2, y: nil} *T"},
		{"expression 1 'E set'; struct 0 'E'; object; int '2'; call 2", "&T{x: 2, y: nil} *T"},
		{"expression 1 'E m'; struct 0 'E'; object; call 1", "T{x: nil, y: nil} T"},
		{"expression 0 'K m'; int '4'; convert 2 'K'; call 1", "K(4) K"},
		{"expression 0 'V m'; int '4'; convert 2 'K'; struct 1 'V P'; call 1", "K(4) K"},
		{"expression 0 'V m'; struct 0 'V'; call 1", "! nil method m"},
		{"expression 1 'V m'; nilof 1 'V'; call 1", "! nil method m"},
		{"expression 1 'fault Error'; text 'a'; text 'b'; struct 2 'fault word more'; object; call 1", "a b text"},
		{"expression 1 'fault Error'; nilof 1 'fault'; call 1", "! nil field word"},
		{"expression 0 'T set'", "! missing set of T"},
		{"expression 0 'T x'", "! missing x of T"},
		{"expression 1 'T x'", "! missing x of *T"},
		{"expression 0 'int m'", "! missing m of int"},
		{"expression 0 'W u'", "! missing u of W twice"},
		{"expression 1 'W u'", "! missing u of *W twice"},
		{"expression 0 'T m'; call 0", "! arguments 0 for 1"},
		{"expression 0 'T m'; nil; nil; call 2", "! arguments 2 for 1"}, // ahead of the receiver
		{"expression 0 'T m'; nil; call 1", "! conversion nil is not T"},
		{"expression 0 'T m'; nilof 1 'T'; call 1", "! conversion *T is not T"},
		{"expression 1 'T m'; struct 0 'T'; call 1", "! conversion T is not *T"},
		{"expression 1 'T m'; nilof 1 'T'; call 1", "! nil method m"},
	})
}

func TestAssertions(t *testing.T) {
	ask(t, tableOf(t, someTypes), []asked{
		{"int '1'; assert 0 'int'", "1 int"},
		{"struct 0 'T'; assert 0 'P'", "T{x: nil, y: nil} T"},
		{"nilof 1 'T'; assert 1 'T'", "nil(*T) *T"},
		{"nilof 1 'T'; assert 0 'any'", "nil(*T) *T"},
		{"nil; assert 0 'any'", "! conversion nil is not any"},
		{"int '1'; assert 0 'K'", "! conversion int is not K"},
		{"int '1'; assert 0 'P'", "! conversion int is not P: no m"},
		{"int '1'; assert 0 'error'", "! conversion int is not error: no Error"},
		{"struct 0 'T'; assert 1 'T'", "! conversion T is not *T"},
		{"nilof 1 'T'; assert 0 'T'", "! conversion *T is not T"},
		{"int '1'; holds 0 'int'; list 2", "[1, true] list"},
		{"int '1'; holds 0 'text'; list 2", "[nil, false] list"},
		{"nil; holds 0 'any'; list 2", "[nil, false] list"},
		{"nilof 1 'T'; holds 1 'T'; list 2", "[nil(*T), true] list"},
		{"nilof 1 'T'; holds 0 'P'; list 2", "[nil(*T), true] list"},
		{"int '1'; holds 2; list 2", "[1, false] list"},
		{"nil; holds 2; list 2", "[nil, true] list"},
		{"nilof 1 'T'; holds 2; list 2", "[nil(*T), false] list"},
	})
}

// A loop gathers the keys and values of its turns; what is taken off the stack behind it lay there all the time.
func TestTurns(t *testing.T) {
	// 0: what is gone over; then a list in slot 3 that grows
	over := func(v string) string {
		n := len(asm(v))
		at := func(i int) string { return strconv.Itoa(n + i) }
		return v + "; turn; list 0; store 3; jump " + at(11) + "; tick; list 2; fresh 2; load 3; load 2; built 2 'append'; store 3; next " + at(13) + "; jump " + at(4) + "; load 3"
	}
	ask(t, tableOf(t, someTypes), []asked{
		{over("int '3'"), "[[0, nil], [1, nil], [2, nil]] list"},
		{over("int '2'; convert 2 'K'"), "[[0, nil], [1, nil]] list"},
		{over("int '0'"), "[] list"},
		{over("int '-3'"), "[] list"},
		{over("text 'ab'"), "[[0, 97], [1, 98]] list"},
		{over("text ''"), "[] list"},
		{over("text 'a'; convert 4 'S'"), "[[0, 97]] list"},
		{over("nil; int '5'; list 2"), "[[0, nil], [1, 5]] list"},
		{over("int '7'; int '8'; int '9'; list 3; int '1'; int '2'; slice 2"), "[[0, 8]] list"},
		{over("nilof 0 'L'"), "[] list"},
		{over("int '1'; text 'a'; nil; nil; map 2"), `[[1, "a"], [nil, nil]] list`},
		{over("nilof 0 'map'"), "[] list"},
		{over("map 0; convert 6 'M'"), "[] list"},
		{over("nil"), "! operand in nil"},
		{over("bool 1"), "! operand in bool"},
		{over("float '0000000000000000'"), "! operand in float"},
		{over("struct 0 'T'"), "! operand in T"},
		{over("nilof 1 'T'"), "! operand in *T"},
		{over("literal 5"), "! operand in func"},
		{"int '5'; int '3'; turn; list 0; turn; drop 2", "5 int"},
		{"int '5'; drop 0", "5 int"},
	})
}
