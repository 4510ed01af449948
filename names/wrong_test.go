package names_test

import (
	"strings"
	"testing"

	"guise/api"
)

// all holds texts, one a line, against what is wrong: the mark ~ stands ahead of the node, and the name behind it is told.
func all(t *testing.T, code api.Errno, lines string) {
	t.Helper()
	for s := range strings.Lines(lines) {
		s = strings.TrimSpace(s)
		if s == "" {
			continue
		}
		s = strings.ReplaceAll(s, " | ", "\n")
		_, behind, _ := strings.Cut(s, "~")
		for _, word := range []string{"var ", "func ", "type ", "protocol ", "break", "continue", "fallthrough", "for ", "switch "} {
			behind = strings.TrimPrefix(behind, word)
		}
		behind = strings.TrimPrefix(behind, " ")
		end := strings.IndexFunc(behind, func(r rune) bool {
			return !strings.ContainsRune("_abcdefghijklmnopqrstuvwxyzABCDEFGHIJKLMNOPQRSTUVWXYZ", r)
		})
		wrong(t, s, code, behind[:end])
	}
}

func allFine(t *testing.T, lines string) {
	t.Helper()
	for s := range strings.Lines(lines) {
		if s = strings.TrimSpace(s); s != "" {
			fine(t, strings.ReplaceAll(s, " | ", "\n"))
		}
	}
}

// ErrTwice: declarations of the program.
func TestDeclaredTwice(t *testing.T) {
	parts := []string{"type X = int", "type X struct { }", "protocol X { }", "func X() { }", "var X = 1"}
	for _, one := range parts {
		for _, two := range parts {
			s := one + "\n" + two + "\n" + in("")
			want(t, s, wrongTold(api.ErrTwice, len(one)+1, "X"))
			fine(t, one+"\n"+strings.Replace(two, "X", "x", 1)+"\n"+in(""))
			want(t, in("")+"\n"+one+"\nfunc f() { }\n"+two, wrongTold(api.ErrTwice, len(in(""))+1+len(one)+1+13, "X"))
		}
		for _, name := range strings.Fields("bool error fault float int list text") {
			want(t, in("")+"\n"+strings.Replace(one, "X", name, 1), wrongTold(api.ErrTwice, len(in(""))+1, name))
		}
		for _, name := range strings.Fields("append cap copy delete len make panic print recover show typeof Int string") {
			fine(t, in("")+"\n"+strings.Replace(one, "X", name, 1))
		}
		// The names of methods, of fields and of wishes are another thing.
		fine(t, one+"\nfunc (r T) X() { }\nfunc (r T) X() { }\ntype T struct { X; X }\nprotocol P { X(0) }\n"+in(""))
	}
	all(t, api.ErrTwice, `
		func main() { } | ~func main() { }
		var main = 1 | ~func main() { }
		func main() { } | ~type main = int
		func f() { } | ~func f(a) { } | func main() { }
	`)
}

// ErrTwice: variables of one scope.
func TestVariablesTwice(t *testing.T) {
	all(t, api.ErrTwice, `
		func main() { x := 1; ~x := 2 }
		func main() { x := 1; y := 2; ~x := x }
		func main() { { x := 1; ~x := 2 } }
		func main() { x, ~x := 1[2] }
		func main() { x := 1; ~x, y := 1[2] }
		func main() { x := 1; y, ~x := 1[2] }
		func main() { x, y := 1[2]; ~y := 1 }
		func main() { x, y := 1[2]; ~x := 1 }
		func main() { for i, ~i in 3 { } }
		func main() { for { x := 1; ~x := 2 } }
		func main() { for i in 3 { x := 1; ~x := 2 } }
		func main() { if 1 { x := 1; ~x := 2 } }
		func main() { if 1 { } else { x := 1; ~x := 2 } }
		func main() { switch { case 1: x := 1; ~x := 2 } }
		func main() { switch { default: x := 1; ~x := 2 } }
		func main() { switch v := 1.(type) { case int: ~v := 2 } }
		func main() { switch v := 1.(type) { default: w, ~v := 2[3] } }
		func main() { switch 1.(type) { case int: v := 1; ~v := 2 } }
		func main() { f := func(a, ~a) { } }
		func main() { f := func(a) { ~a := 1 } }
		func main() { f := func() { a := 1; ~a := 2 } }
		func f(a, b, ~a) { } | func main() { }
		func f(a) { ~a := 1 } | func main() { }
		func f(a) { b := 1; ~a, c := 1[2] } | func main() { }
		func (r T) f(~r) { } | func main() { }
		func (r *T) f(a, ~r) { } | func main() { }
		func (r T) f() { ~r := 1 } | func main() { }
		var f = func(a, ~a) { } | func main() { }
	`)
	allFine(t, `
		func main() { x := 1; { x := 2 }; { x := 3 } }
		func main() { { x := 1 }; x := 2 }
		func main() { x := 1; if x { x := 1 } else if x { x := 2 } else { x := 3 } }
		func main() { x := 1; for { x := 2 }; for x in x { x := x } }
		func main() { for i in 3 { }; for i in 3 { } }
		func main() { for i, v in 3 { i := v; v := i } }
		func main() { x := 1; switch { case x: x := 2; case x: x := 3; default: x := 4 } }
		func main() { v := 1; switch v := v.(type) { case int: { v := v }; case text: default: } }
		func main() { x := 1; f := func(x) { { x := 2 } } }
		func main() { x := func(x) { y := func(x) { } } }
		func main() { x := 1; f := func() { x := x } }
		func f(a) { { a := 1 } } | func (r T) g(a) { for r in a { } } | func main() { a := 1 }
		func f(f, g, main) { } | func g(g) { } | var v = func(v) { } | func main() { v := 1; f := 1; main := 1 }
		func (T T) f(f) { } | type T struct { f } | func main() { }
	`)
}

// ErrTwice and ErrUnknown: the fields of a struct that is made.
func TestFields(t *testing.T) {
	head := "type T struct { a; b; .U; .*V; .P } | type U struct { u } | type V struct { v } | protocol P { p(0) } | type E struct { } | type K = int | func main() "
	all(t, api.ErrTwice, strings.ReplaceAll(`
		@{ x := T{a: 1, ~a: 2} }
		@{ x := T{a: 1, b: 2, ~a: 3} }
		@{ x := T{b: 1, a: 2, ~a: 3, a: 4} }
		@{ x := &T{U: 1, V: 2, P: 3, ~U: 4} }
		@{ x := T{a: T{a: 1, ~a: 2}} }
		@{ x := fault{word: 1, more: 2, ~more: 3} }
	`, "@", head))
	all(t, api.ErrUnknown, strings.ReplaceAll(`
		@{ x := T{~c: 1} }
		@{ x := T{a: 1, ~A: 2} }
		@{ x := T{~u: 1} }
		@{ x := T{~v: 1} }
		@{ x := T{~p: 1} }
		@{ x := T{~T: 1} }
		@{ x := T{~word: 1} }
		@{ x := &U{~a: 1} }
		@{ x := E{~a: 1} }
		@{ x := T{a: U{~a: 1}} }
		@{ x := T{~c: 1, c: 2} }
		@{ x := fault{~Error: 1} }
		@{ x := fault{~a: 1} }
	`, "@", head))
	allFine(t, strings.ReplaceAll(`
		@{ x := T{a: 1, b: 2, U: 3, V: 4, P: 5} }
		@{ x := T{P: 1, a: T{a: 1, b: 2}, b: T{a: 1, b: 2}} }
		@{ a := 1; x := &T{a: a}; y := E{}; z := U{u: V{v: 1}} }
		@{ x := &fault{word: fault{word: 1}, more: fault{more: 2}} }
	`, "@", head))
}

// ErrUnknown: names that no scope has, wherever a name stands.
func TestUnknown(t *testing.T) {
	for _, e := range []string{"~q", "[1, ~q]", "map{~q: 1}", "map{1: ~q}", "fault{word: ~q}", "&fault{more: ~q}", "func() { return ~q }", "~q.f", "(*~q).f",
		"~q[1]", "1[~q]", "~q[:]", "1[~q:]", "1[:~q]", "1[:1:~q]", "~q()", "1(~q)", "int(~q)", "~q.(int)", "-~q", "*~q", "~q + 1", "1 + ~q"} {
		wrong(t, in("x := "+e), api.ErrUnknown, "q")
		wrong(t, "var x = "+e+"\n"+in(""), api.ErrUnknown, "q")
		right := strings.Replace(e, "~", "", 1)
		fine(t, in("q := 1; x := "+right))
		fine(t, "var x = "+right+"\n"+in("")+"\nvar q = 1")
		fine(t, in("x := "+right)+"\nfunc q() { }")
	}
	for _, e := range []string{"~q{}", "&~q{}", "1.(~q)", "1.(*~q)", "nil(*~q)"} {
		wrong(t, in("x := "+e), api.ErrUnknown, "q")
		fine(t, in("x := "+strings.Replace(e, "~", "", 1))+"\ntype q struct { }")
	}
	for _, s := range []string{"~q = 1", "~q += 1", "~q++", "q := 1; ~p, q = 1[2]", "q := 1; q, ~p = 1[2]", "q := 1; q, ~p = 1.(int)", "~q.f = 1", "~q[1] = 1", "1[~q] = 1", "*~q = 1",
		"x, y := ~q[1]", "if ~q { }", "if 1 { } else if ~q { }", "for ~q { }", "for i in ~q { }", "switch ~q { }", "switch { case ~q: }", "switch { case 1, ~q: }",
		"switch ~q.(type) { }", "switch 1.(type) { case ~q: }", "switch 1.(type) { case nil, *~q: }", "return ~q", "~q()", "print(~q)", "defer ~q()", "defer print(~q)"} {
		name := "q"
		if strings.Contains(s, "~p") {
			name = "p"
		}
		wrong(t, in(s), api.ErrUnknown, name)
	}
	// Fields, methods, labels and the names of methods are no names of a scope.
	all(t, api.ErrUnknown, `
		type T struct { q } | func main() { ~q = 1 }
		type T struct { .q } | func main() { x := ~q{} }
		protocol P { q(0) } | func main() { ~q() }
		func (r T) q() { } | func main() { ~q() }
		func (r q) f() { } | func main() { x := nil(*~q) }
		func main() { q: for { ~q++ } }
		func main() { x := 1.q; y := ~q }
	`)
	// What stands in declarations of types and protocols, and in receivers, is not asked here.
	allFine(t, `
		type T = q | type S struct { .q; .*r; x; x } | protocol P { q; m(0); m(1) } | func (r q) m() { } | func (r *q) m() { } | func main() { }
	`)
}

const things = "var v = 1 | func f() { } | type K = int | type L = list | type M = map | type F = func | type S struct { } | protocol P { } | "

// uses: of each name, put in the place of @, whether it may stand in the statements; the others are ErrUse.
func uses(t *testing.T, statements string, may string) {
	t.Helper()
	at := strings.Index(statements, "@")
	for _, name := range strings.Fields("v f K L M F S P x a print int bool float text list fault error map func any") {
		if word := name == "map" || name == "func" || name == "any"; word && !strings.Contains(statements, "(@)") && !strings.Contains(statements, "case @") {
			continue
		}
		head := strings.ReplaceAll(things, " | ", "\n") + "func main(){ }\nfunc g(a) { x := 1; "
		s := head + strings.Replace(statements, "@", name, 1) + " }"
		switch {
		case name == "any" && strings.Contains(statements, "nil("):
		case strings.Contains(" "+may+" ", " "+name+" "):
			fine(t, s)
		default:
			want(t, s, wrongTold(api.ErrUse, len(head)+at, name))
		}
	}
}

// ErrUse: what may stand where.
func TestWhatMayStandWhere(t *testing.T) {
	const (
		variables = "v x a "
		values    = variables + "f "
		kinds     = "K L M F int bool float text list "
		structs   = "S fault "
	)
	for _, place := range []string{"@ = 1", "@ += 1", "@ >>= 1", "@++", "@--", "@, x = 1[2]", "x, @ = 1[2]", "x, @ = 1.(int)"} {
		uses(t, place, variables)
	}
	for _, e := range []string{"x = @", "y := @", "x = [@]", "x = map{@: 1}", "x = map{1: @}", "x = fault{word: @}", "x = @[1]", "x = 1[@]", "x = @[1:2]", "x = 1[@:]", "x = 1[:@]", "x = 1[:1:@]",
		"x = 1(@)", "x = int(@)", "x = print(@)", "x = -@", "x = *@", "x = @ + 1", "x = 1 + @", "x = @.(int)", "x, v = @.(int)", "x, v = @[1]", "return @", "if @ { }", "for @ { }", "for i in @ { }",
		"switch @ { }", "switch { case @: }", "switch { case 1, @: }", "switch @.(type) { }", "*@ = 1", "@[1] = 2", "1[@] = 2", "x = (*@)(1)", "x = (*@)[1]", "x = (-@).m", "x = (**@).m", "x = f(1, @)",
		"print(@)", "defer print(@)", "x = @[1].m", "x = (*@[1]).m"} {
		if strings.Contains(e, "(@)") {
			e = strings.Replace(e, "(@)", "(@, 1)", 1)
			if strings.Contains(e, "int(") {
				e = "x = int(-@)"
			}
		}
		if strings.Contains(e, "case @") {
			e = "switch { case -@: }"
		}
		uses(t, e, values)
	}
	for _, e := range []string{"x = @.m", "x = @.m(1)", "@.m = 1", "@.m()", "@.m++", "x = @.m.n", "x = @.m + 1"} {
		uses(t, e, values+kinds+structs)
	}
	for _, e := range []string{"x = (*@).m", "x = (*@).m(1)", "(*@).m()", "(*@).m = 1"} {
		uses(t, e, values+structs)
	}
	for _, e := range []string{"x = @(1)", "x = f(@(1))", "x = [@(1)]", "x = @(1).m", "x = @(1)(2)", "x = @(1)[2]", "print(@(1))", "defer print(@(1))", "@(1).m()", "@(1).m = 2", "@(1)(2)", "defer @(1)()",
		"x = (*@(1)).m", "return @(1)", "if @(1) { }"} {
		uses(t, e, values+kinds+"print")
	}
	for _, e := range []string{"x = @()", "x = @(1, 2)", "@(1)", "@()", "@(1, 2)", "defer @(1)", "defer @()", "defer @(1, 2)"} {
		uses(t, e, values+"print")
	}
	for _, e := range []string{"x = 1.(@)", "x, v = 1.(@)", "y, z := 1.(@)", "x = x.(@).m", "switch 1.(type) { case @: }", "switch 1.(type) { case @, int: }"} {
		uses(t, e, kinds+structs+"P error map func any")
	}
	for _, e := range []string{"x = 1.(*@)", "x = nil(*@)", "switch 1.(type) { case nil, *@: }", "switch z := 1.(type) { case int, *@: }", "x = @{}", "x = &@{}", "x = f(@{})", "x = @{}.m", "x = (*&@{}).m"} {
		uses(t, e, structs)
	}
	uses(t, "x = nil(@)", "L M F list map func")
	uses(t, "x = nil(@).m", "L M F list map func")
}

// A call of map is a conversion.
func TestMapIsCalled(t *testing.T) {
	fine(t, in("x := map(1)"))
	all(t, api.ErrUse, `
		func main() { x := ~map() }
		func main() { x := ~map(1, 2) }
		func main() { ~map(1) }
		func main() { defer ~map(1) }
	`)
}

// The kind of a declared type is what its declaration names.
func TestKindsOfDeclaredTypes(t *testing.T) {
	allFine(t, `
		func main() { x := nil(T) } | type T = list
		func main() { x := nil(T) } | type T = map
		func main() { x := nil(T) } | type T = func
	`)
	all(t, api.ErrUse, `
		func main() { x := nil(~T) } | type T = U | type U = list
		func main() { x := nil(~T) } | type T = text
		func main() { x := nil(~T) } | type T = fault
		func main() { x := nil(~T) } | type T struct { }
		func main() { x := nil(~T) } | protocol T { }
		func main() { x := nil(*~T) } | type T = list
		func main() { x := 1.(*~T) } | protocol T { }
	`)
}

// ErrLabel: labels, breaks, continues.
func TestLabels(t *testing.T) {
	all(t, api.ErrLabel, `
		func main() { ~break }
		func main() { ~break L }
		func main() { ~continue }
		func main() { ~continue L }
		func main() { if 1 { ~break } }
		func main() { { ~continue } }
		func main() { for { }; ~break }
		func main() { L: for { }; ~break L }
		func main() { L: for { }; for { ~continue L } }
		func main() { for { ~break L } }
		func main() { L: for { ~break M } }
		func main() { L: for { ~continue M } }
		func main() { L: for { for { ~continue l } } }
		func main() { switch { default: ~continue } }
		func main() { switch 1.(type) { default: ~continue } }
		func main() { L: switch { default: ~continue L } }
		func main() { L: switch 1.(type) { default: ~continue L } }
		func main() { for { L: switch { default: ~continue L } } }
		func main() { L: switch { default: for { ~continue L } } }
		func main() { L: for { ~L: for { } } }
		func main() { L: for { ~L: for i in 3 { } } }
		func main() { L: for { ~L: switch { } } }
		func main() { L: for { ~L: switch 1.(type) { } } }
		func main() { L: for i in 3 { ~L: for { } } }
		func main() { L: switch { case 1: ~L: for { } } }
		func main() { L: switch 1.(type) { case int: ~L: for { } } }
		func main() { L: for { M: for { if 1 { { ~L: for { } } } } } }
		func main() { L: for { for { ~L: for { } } } }
		func main() { for { f := func() { ~break } } }
		func main() { for { f := func() { ~continue } } }
		func main() { L: for { f := func() { ~break L } } }
		func main() { L: for { f := func() { for { ~continue L } } } }
		func main() { L: switch { default: f := func() { ~break L } } }
		func main() { for func() { ~break } { } }
		func main() { for i in func() { ~continue } { } }
		func main() { switch { case func() { ~break }: } }
		func f() { for { } } | func main() { ~break }
		var x = func() { ~break } | func main() { }
		func (r T) m() { ~continue } | func main() { }
	`)
	allFine(t, `
		func main() { for { break; continue }; for i in 3 { break; continue } }
		func main() { switch { case 1: break }; switch 1.(type) { case int: break } }
		func main() { L: for { break L; continue L }; L: for i in 3 { break L; continue L } }
		func main() { L: switch { default: break L }; L: switch 1.(type) { default: break L } }
		func main() { L: for { M: for { break L; break M; continue L; continue M; break; continue } } }
		func main() { for { switch { case 1: continue }; switch 1.(type) { case int: continue } } }
		func main() { L: for { M: switch { case 1: { if 1 { continue L } else { break M } } } } }
		func main() { L: for { }; L: for i in 3 { }; L: switch { }; L: switch 1.(type) { } }
		func main() { L: for { f := func() { L: for { break L; continue L } } } }
		func main() { L: for { M: for { }; M: for { continue L } } }
		func main() { L: for { f := func() { for { break } }; break L } }
		func main() { L: for { for { for { switch { default: break L } } } } }
		func main() { for { for { } }; x := 1; x: for { x++; break x } }
		func main() { main: for { break main }; int: for { continue int } }
		func main() { L: for func() { L: for { } } { } }
	`)
}

// ErrLabel: fallthrough.
func TestFallthrough(t *testing.T) {
	all(t, api.ErrLabel, `
		func main() { ~fallthrough }
		func main() { { ~fallthrough } }
		func main() { for { ~fallthrough } }
		func main() { switch { case 1: ~fallthrough } }
		func main() { switch { default: ~fallthrough } }
		func main() { switch { case 1: case 2: ~fallthrough } }
		func main() { switch { case 1: fallthrough; case 2: ~fallthrough } }
		func main() { switch { case 1: fallthrough; default: ~fallthrough } }
		func main() { switch { case 1: ~fallthrough; print(); case 2: } }
		func main() { switch { case 1: ~fallthrough; fallthrough; case 2: } }
		func main() { switch { case 1: { ~fallthrough }; case 2: } }
		func main() { switch { case 1: if 1 { ~fallthrough }; case 2: } }
		func main() { switch { case 1: for { ~fallthrough }; case 2: } }
		func main() { switch { case 1: f := func() { ~fallthrough }; case 2: } }
		func main() { switch { case 1: switch { case 2: ~fallthrough }; case 3: } }
		func main() { switch 1.(type) { case int: ~fallthrough; case text: } }
		func main() { switch v := 1.(type) { case int: ~fallthrough; default: } }
		func main() { switch { case 1: switch 1.(type) { case int: ~fallthrough; case text: }; case 2: } }
		func main() { L: for { switch { case 1: }; ~fallthrough } }
		func f() { ~fallthrough } | func main() { }
	`)
	allFine(t, `
		func main() { switch { case 1: fallthrough; case 2: } }
		func main() { switch 1 { case 1: print(); fallthrough; case 2: fallthrough; case 3: } }
		func main() { switch { default: fallthrough; case 2: } }
		func main() { switch { case 1: fallthrough; default: fallthrough; case 2: } }
		func main() { switch { case 1: switch { case 2: fallthrough; case 3: }; fallthrough; default: } }
		func main() { switch 1.(type) { case int: switch { case 2: fallthrough; case 3: } } }
		func main() { f := func() { switch { case 1: fallthrough; case 2: } } }
	`)
}

// ErrMain comes last of all.
func TestMain(t *testing.T) {
	all(t, api.ErrMain, `
		~func main(a) { }
		var x = 1 | ~func main(a, b) { }
		func f() { } | ~func main(main) { } | func g() { }
	`)
	for s, at := range map[string]int{"": 0, "\n\n": 2, " var x = 1": 1, "func f() { }": 0, "func Main() { }": 0, "var main = 1": 0, "type main struct { }": 0, "protocol main { }": 0, "type main = int": 0,
		"func (m T) main() { }": 0, "// none\n\nfunc main1() { }": 9, "func f() { main := func() { } }": 0} {
		want(t, s, wrongTold(api.ErrMain, at, "main"))
	}
	allFine(t, `
		func main() { }
		var x = main | func main() { main() }
		func (r T) main(a) { } | func main() { }
		func f(main) { } | func main() { main := 1 }
	`)
}
