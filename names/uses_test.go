package names_test

import (
	"strconv"
	"strings"
	"testing"

	"guise/api"
)

// What is there from the beginning, by its numbers: types behind an assertion, calls where they are called.
func TestTheBeginning(t *testing.T) {
	for i, name := range strings.Fields("any bool error fault float func int list map text") {
		want(t, in("x := 1.("+name+")"), "1 main func 0, 4 x local 0, 7 "+name+" type -"+strconv.Itoa(i+1)+"; 1 has 1")
	}
	for i, name := range strings.Fields("append cap copy delete len make panic print recover show typeof") {
		want(t, in(name+"()"), "1 main func 0, 6 "+name+" call "+strconv.Itoa(i)+"; 1 has 0")
	}
	wrong(t, in("x := ~string(1)"), api.ErrUnknown, "string")
	wrong(t, in("~println()"), api.ErrUnknown, "println")
}

// Each row of the chapter's table of uses.
func TestUses(t *testing.T) {
	for s, bound := range map[string]string{
		// A variable's name as an expression, wherever one stands, and as a place.
		in("a := 1; b := [a, -a, a + a, a[a:a:a], a.f, a(a), map{a: a}, fault{word: a}, a.(int)]"): "1 main func 0, 4 a local 0, 6 b local 1, 8 a local 0, 10 a local 0, 12 a local 0, 13 a local 0, 15 a local 0, 16 a local 0, 17 a local 0, 18 a local 0, 20 a local 0, 22 a local 0, 23 a local 0, 26 a local 0, 27 a local 0, 28 fault type -4, 30 a local 0, 32 a local 0, 33 int type -7; 1 has 2",
		in("a := 1; if a { } else if a { }; for a { }; switch a { case a: }; return a"):            "1 main func 0, 4 a local 0, 7 a local 0, 10 a local 0, 14 a local 0, 17 a local 0, 20 a local 0, 23 a local 0; 1 has 1",
		in("a := 1; for a in a { a++ }; switch a := a.(type) { default: a-- }"):                    "1 main func 0, 4 a local 0, 7 a local 1, 9 a local 0, 12 a local 1, 15 a local 0, 16  local 2, 20 a local 2; 1 has 3",
		in("a := 1; b := 2; a = b; a += b; a--; a, b = a[b]; a.x = b; a[b] = a; *a = b"):           "1 main func 0, 4 a local 0, 6 b local 1, 9 a local 0, 10 b local 1, 12 a local 0, 13 b local 1, 15 a local 0, 17 a local 0, 18 b local 1, 20 a local 0, 21 b local 1, 24 a local 0, 25 b local 1, 28 a local 0, 29 b local 1, 30 a local 0, 33 a local 0, 34 b local 1; 1 has 2",
		in("a := 1; a(); defer a(a)"): "1 main func 0, 4 a local 0, 8 a local 0, 11 a local 0, 12 a local 0; 1 has 1",

		// Words that are no names.
		in("a := true; a = false; a = nil"):                                                  "1 main func 0, 4 a local 0, 7 a local 0, 10 a local 0; 1 has 1",
		in("switch nil.(type) { case nil: }; switch { case nil, true: }; a := (nil)(false)"): "1 main func 0, 18 a local 0; 1 has 1",

		// Variables and functions of the program, by their numbers, also ahead of their declarations.
		"var a = b()\nfunc main() { x := [a, b, c, d, main] }\nvar c = a\nfunc b() { }\nfunc d() { c = d }": "1 a global 0, 3 b func 1, 4 main func 0, 7 x local 0, 9 a global 0, 10 b func 1, 11 c global 1, 12 d func 2, 13 main func 0, 14 c global 1, 15 a global 0, 16 b func 1, 19 d func 2, 23 c global 1, 24 d func 2; 4 has 1, 16 has 0, 19 has 0",
		"var a = a\n" + in("a++"): "1 a global 0, 2 a global 0, 3 main func 0, 7 a global 0; 3 has 0",

		// Types and protocols, of all three kinds numbered together.
		"type K = int\ntype S struct { x; .T; .*U }\nprotocol P { m(0); Q }\n" + in("x := K(1); x = x.(S); x = x.(*S); x = x.(P); x = nil(*S); x = nil(L); x = S{x: S{}}; x = &S{}; x = K.m; x = S.m; x = (*S).m") + "\ntype L = list": "1 K type 0, 3 S type 1, 7 P type 2, 10 main func 0, 13 x local 0, 15 K type 0, 18 x local 0, 20 x local 0, 21 S type 1, 23 x local 0, 25 x local 0, 27 S type 1, 29 x local 0, 31 x local 0, 32 P type 2, 34 x local 0, 37 S type 1, 39 x local 0, 41 L type 3, 43 x local 0, 44 S type 1, 46 S type 1, 48 x local 0, 50 S type 1, 52 x local 0, 54 K type 0, 56 x local 0, 58 S type 1, 60 x local 0, 63 S type 1, 64 L type 3; 10 has 1",
		in("switch 1.(type) { case int, *fault, nil, any: ; case error: ; default: }"): "1 main func 0, 9 int type -7, 11 fault type -4, 13 any type -1, 17 error type -3; 1 has 0",
		in("x := map(1); x = int.m; x = list(map(x))"):                                 "1 main func 0, 4 x local 0, 6 map type -9, 9 x local 0, 11 int type -7, 13 x local 0, 15 list type -8, 17 map type -9, 18 x local 0; 1 has 1",

		// Nodes that declare: parameters, receivers, the names of loops, of cases.
		"func (r T) m(a, b) { c := r }\nfunc (r *T) n() { }\n" + in(""):                      "2 r local 0, 5 a local 1, 6 b local 2, 8 c local 3, 9 r local 0, 11 r local 0, 16 main func 0; 1 has 4, 10 has 1, 16 has 0",
		in("a, b := 1[2]; c, d := 1.(int)"):                                                  "1 main func 0, 5 a local 0, 6 b local 1, 11 c local 2, 12 d local 3, 15 int type -7; 1 has 4",
		in("for i, v in 1 { }; for _, v in 1 { }; for i in 1 { }; for _ in 1 { }"):           "1 main func 0, 5 i local 0, 6 v local 1, 11 v local 2, 15 i local 3; 1 has 4",
		in("switch v := 1.(type) { case int: v = 1; case text: default: v++ }"):              "1 main func 0, 7  local 0, 9 int type -7, 12 v local 0, 14  local 1, 16 text type -10, 18  local 2, 22 v local 2; 1 has 3",
		in("switch v := 1.(type) { }"):                                                       "1 main func 0; 1 has 0",
		"type T struct { a; .b }\nprotocol P { m(1); Q }\ntype K = map\n" + in("x := 1.y.z"): "1 T type 0, 4 P type 1, 7 K type 2, 9 main func 0, 12 x local 0; 9 has 1",
	} {
		want(t, s, bound)
	}
}

// The slots of a function: its receiver, its parameters, then what stands in it, blocks within blocks too, but no literals.
func TestSlots(t *testing.T) {
	want(t, "func (r T) m(p, q) { { a := 1; { b := 2 }; c := 3 }; for d in 1 { e, f := 1[2] }; func(x, y) { z := 1 }(); switch g := 1.(type) { case int: h := 4; default: }; i := 5 }\n"+in(""),
		"2 r local 0, 5 p local 1, 6 q local 2, 9 a local 3, 12 b local 4, 14 c local 5, 17 d local 6, 22 e local 7, 23 f local 8, "+
			"31 x local 0, 32 y local 1, 34 z local 2, 39  local 9, 41 int type -7, 43 h local 10, 45  local 11, 48 i local 12, 50 main func 0; "+
			"1 has 13, 29 has 3, 50 has 0")
}

// Scopes within one another: the innermost one that has a name says what it stands for.
func TestScopes(t *testing.T) {
	want(t, "var x = 1\n"+in("a := x; x := x; { b := x; x := x; { c := x; x := x; d := x }; e := x }; f := x"),
		"1 x global 0, 3 main func 0, 6 a local 0, 7 x global 0, 8 x local 1, 9 x global 0, 11 b local 2, 12 x local 1, 13 x local 3, 14 x local 1, "+
			"16 c local 4, 17 x local 3, 18 x local 5, 19 x local 3, 20 d local 6, 21 x local 5, 22 e local 7, 23 x local 3, 24 f local 8, 25 x local 1; 3 has 9")

	// A block's variables end with it: each kind of block.
	for _, s := range []string{"{ x := 1 }; y := ~x", "if 1 { x := 1 } else { y := ~x }", "if 1 { x := 1 } else if ~x { }", "if 1 { x := 1 }; ~x++",
		"for { x := 1 }; ~x++", "for x in 1 { }; ~x++", "for x in 1 { y := x }; ~x++", "switch { case 1: x := 1; case 2: y := ~x }",
		"switch { case 1: x := 1; case ~x: }", "switch { case 1: x := 1 }; ~x++", "switch x := 1.(type) { case int: }; ~x++", "switch x := ~x.(type) { }",
		"switch 1.(type) { case int: x := 1; default: ~x = 1 }", "f := func(x) { }; ~x++", "f := func() { x := 1 }; ~x++",
		"for x in 1 { }; for y in ~x { }", "for ~x { x := 1 }"} {
		wrong(t, in(s), api.ErrUnknown, "x")
	}

	// A name in its own declaration is what it was ahead of it, or nothing.
	for _, s := range []string{"x := ~x", "x := func() { ~x = 1 }", "x := func() { return ~x() }", "x, y := ~x[1]", "x, y := 1[~y]", "x, y := ~y.(int)",
		"for x in ~x { }", "for _, x in ~x { }", "for x in func() { ~x++ } { }", "switch x := ~x.(type) { default: }", "y := ~x; x := 1", "f := func() { ~x++ }; x := 1",
		"switch { case ~x: x := 1 }", "{ ~x++; x := 1 }"} {
		name := "x"
		if strings.Contains(s, "~y") {
			name = "y"
		}
		wrong(t, in(s), api.ErrUnknown, name)
	}
	want(t, in("x := 1; { x := func() { x := x; x++ } }"),
		"1 main func 0, 4 x local 0, 7 x local 1, 11 x local 0, 12 x local 0^1, 14 x local 0; 1 has 2 *0, 8 has 1")
	want(t, in("x := 1; { x, y := x[x] }; for x, y in x { x++ }; for _, x in func() { return x } { x++ }"),
		"1 main func 0, 4 x local 0, 8 x local 1, 9 y local 2, 11 x local 0, 12 x local 0, 14 x local 3, 15 y local 4, 16 x local 0, 19 x local 3, "+
			"22 x local 5, 27 x local 0^1, 30 x local 5; 1 has 6 *0, 23 has 0")

	// The name of a type switch is none of its cases' types, and is a variable of each case's block.
	want(t, "type T struct { }\n"+in("switch T := 1.(type) { case T: T++; case *T: T-- }"),
		"1 T type 0, 2 main func 0, 8  local 0, 10 T type 0, 13 T local 0, 14  local 1, 17 T type 0, 20 T local 1; 2 has 2")
	want(t, in("v := 1; switch v := v.(type) { case int: { v := v }; w := v }; v++"),
		"1 main func 0, 4 v local 0, 8 v local 0, 9  local 1, 11 int type -7, 14 v local 2, 15 v local 1, 16 w local 3, 17 v local 1, 19 v local 0; 1 has 4")
}

// Literals within literals: how far up they lead, and what is taken of whom.
func TestLiterals(t *testing.T) {
	want(t, in("a := 1; b := 2; c := 3; f := func(d) { g := func(e) { h := func() { return a + d + e }; b = h }; d = g }"),
		"1 main func 0, 4 a local 0, 6 b local 1, 8 c local 2, 10 f local 3, 13 d local 0, 15 g local 1, 18 e local 0, 20 h local 1, "+
			"27 a local 0^3, 28 d local 0^2, 29 e local 0^1, 31 b local 1^2, 32 h local 1, 34 d local 0, 35 g local 1; "+
			"1 has 4 *0 *1, 11 has 2 *0, 16 has 2 *0, 21 has 0")

	// Taken slots rise, however they are come to, each once.
	want(t, in("a := 1; b := 2; c := 3; func() { return [c, a, c, a] }(); d := b"),
		"1 main func 0, 4 a local 0, 6 b local 1, 8 c local 2, 17 c local 2^1, 18 a local 0^1, 19 c local 2^1, 20 a local 0^1, 21 d local 3, 22 b local 1; 1 has 4 *0 *2, 12 has 0")

	// Receivers, parameters, the names of loops and of cases are taken, too.
	want(t, "func (r T) m(p) { for i, v in 1 { f := func() { return [v, i, p, r] } }; switch x := 1.(type) { case int: ; case text: g := func() { x++ } } }\n"+in(""),
		"2 r local 0, 5 p local 1, 8 i local 2, 9 v local 3, 12 f local 4, 18 v local 3^1, 19 i local 2^1, 20 p local 1^1, 21 r local 0^1, "+
			"25  local 5, 27 int type -7, 29  local 6, 31 text type -10, 33 g local 7, 38 x local 6^1, 39 main func 0; "+
			"1 has 8 *0 *1 *2 *3 *6, 13 has 0, 34 has 0, 39 has 0")

	// In a variable of the program no function is around; its literals are functions, though.
	want(t, "var f = [func(a) { return func() { return [a, f] } }, f]\n"+in(""),
		"1 f global 0, 5 a local 0, 13 a local 0^1, 14 f global 0, 15 f global 0, 16 main func 0; 3 has 1 *0, 8 has 0, 16 has 0")
	wrong(t, "var f = func(a) { }(~a)\n"+in(""), api.ErrUnknown, "a")

	// What is no variable of a function is taken of nobody.
	want(t, "var v = 1\nfunc f() { }\n"+in("func() { v = f(v, int.m, print()) }()"),
		"1 v global 0, 3 f func 0, 6 main func 1, 15 v global 0, 17 f func 0, 18 v global 0, 20 int type -7, 22 print call 7; 3 has 0, 6 has 0, 11 has 0")

	// One function does not see another one's.
	wrong(t, "func f(a) { b := 1 }\n"+in("~a = 1"), api.ErrUnknown, "a")
	wrong(t, "func f(a) { b := 1 }\n"+in("x := func() { ~b = 1 }"), api.ErrUnknown, "b")
	wrong(t, "func (r T) f(a) { }\n"+in("~r++"), api.ErrUnknown, "r")
}

// Names that are there from the beginning, declared anew.
func TestDeclaredAnew(t *testing.T) {
	want(t, "func print(a) { len := a; return len }\nvar cap = print(1)\ntype show struct { x }\nprotocol copy { }\ntype make = list\n"+
		in("x := show{x: nil(make)}; x = x.(copy); x = make(cap); append := 1; append(2)"),
		"1 print func 0, 3 a local 0, 5 len local 1, 6 a local 0, 8 len local 1, 9 cap global 0, 11 print func 0, 13 show type 0, 15 copy type 1, 16 make type 2, "+
			"18 main func 1, 21 x local 0, 22 show type 0, 25 make type 2, 27 x local 0, 29 x local 0, 30 copy type 1, 32 x local 0, 34 make type 2, 35 cap global 0, "+
			"36 append local 1, 40 append local 1; 1 has 2, 18 has 2")
	want(t, in("int := 1; int++; x := int(2); error := int; x = error.Error; fault := x; for list in 1 { list = list(1) }"),
		"1 main func 0, 4 int local 0, 7 int local 0, 8 x local 1, 10 int local 0, 12 error local 2, 13 int local 0, 15 x local 1, 17 error local 2, "+
			"18 fault local 3, 19 x local 1, 21 list local 4, 26 list local 4, 28 list local 4; 1 has 5")
	wrong(t, in("int := 1; x := 1.(~int)"), api.ErrUse, "int")
	wrong(t, in("fault := 1; x := ~fault{}"), api.ErrUse, "fault")
	wrong(t, in("fault := 1; x := 1.(*~fault)"), api.ErrUse, "fault")
	wrong(t, in("list := 1; x := nil(~list)"), api.ErrUse, "list")
	wrong(t, in("int := 1; switch 1.(type) { case ~int: }"), api.ErrUse, "int")
	fine(t, in("{ int := 1 }; x := 1.(int)"))
	wrong(t, "func print() { }\n"+in("~print = 1"), api.ErrUse, "print")
	fine(t, "var print = 1\n"+in("print = 1"))
	fine(t, "func print() { }\n"+in("x := print"))
}
