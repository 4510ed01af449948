package certain_test

import (
	"strings"
	"testing"
)

// A declared function that is called by its name alone takes what these calls give, if their number fits.
func TestDeclaredFunctions(t *testing.T) {
	want(t, "var a = nil\nvar b = nil\nfunc f(x, y) { a = x; b = y; return y }\nfunc main() { f(1, 1.5); f(\"t\", nil) }", "a: int nil text; b: float nil | ")
	want(t, "var a = f(1, 2)\nvar b = f(\"t\")\nvar c = f()\nfunc f(x) { print(x.(text)); return x }\nfunc main() { f(true, 1); f(); f(1.5, 1, 1) }", "a: nil text; b: nil text; c: nil text | text always")
	// Other calls come to it as soon as its name stands anywhere else, also far behind.
	const other = "var a = nil\ntype F = func\ntype T struct { f; g }\nfunc main() { g(1); true(1.5, 1.5); true(\"t\") }\nfunc g(x) { f(x) }\nfunc f(x) { a = x }\nfunc k() { "
	for _, s := range []string{
		"x := f", "print(f)", "x := f == 1", "x := f.x", "f.x = 1", "f.x++", "f[0] = 1", "*f = 1", "x := [f]", "return f", "x := F(f)", "switch f { }", "switch 1 { case f: }", "switch f.(type) { }", "for f { }", "for i in f { }", "if f { }",
		"x := func() { return f }", "x, ok := f[1]", "x := T{f: f}", "x := map{f: 1}", "x := f[1:2]", "x := -f", "x := 1[f]", "g(f)", "defer g(f)", "g(f.(text))", "f.f(1)",
	} {
		n := parsed(t, other+s+" }")
		if got := typed(t, n); !strings.HasPrefix(got, "a: ") || !strings.Contains(got, "int nil text") {
			t.Errorf("Z1: %s: %s", s, got)
		}
		asTheModel(t, n, s)
	}
	// Where it stands as what is called, or another thing has its name, it is not loose.
	for _, s := range []string{"f(1)", "defer f(1)", "x := f(1) + f(1)", "f(f(1))", "f := 1; print(f)", "for f in 3 { print(f) }", "x := func(f) { return f }", "x := T{f: 1}.f", "T{}.f = 1", "switch f := 1.(type) { case int: print(f) }", "x := func() { f(1) }"} {
		n := parsed(t, other+s+" }")
		if got := typed(t, n); got != "a: int nil" {
			t.Errorf("Z1: %s: %s", s, got)
		}
		asTheModel(t, n, s)
	}
	// The parts of a call are gone over, also where their number does not fit.
	wantSets(t, declared, "same([1], [1.5]); same()", more, []row{{"[][0]", "nil int float"}, {"same(nil)", "nil"}})
}

// All other calls come to all loose functions that take as many parts; to methods also with the receiver ahead of them.
func TestOtherCalls(t *testing.T) {
	const three = "var l = func(x) { a = x; return x }\nvar a = nil\nvar b = nil\nvar c = nil\ntype T struct { u }\nfunc (t T) val(x) { b = x; return t }\nfunc (t *T) ptr(x) { c = x; return t }\n"
	calls := []struct{ s, must string }{
		{"", "l: func nil; a: nil; b: nil; c: nil | "},
		{"l(1)", "l: func nil; a: int nil; b: int nil; c: int nil | "},
		{"true(1)", "l: func nil; a: int nil; b: int nil; c: int nil | "},
		{"T{}.val(1)", "l: func nil; a: int nil; b: int nil; c: int nil | "},
		{"(&T{}).ptr(\"t\")", "l: func nil; a: nil text; b: nil text; c: nil text | "},
		{"func(x) { }(1)", "l: func nil; a: int nil; b: int nil; c: int nil | "},
		{"T.val(T{}, 1.5)", "l: func nil; a: nil; b: float nil; c: float nil | "},
		{"(*T).ptr(nil, true)", "l: func nil; a: nil; b: bool nil; c: bool nil | "},
		{"l(1, 2, 3)", "l: func nil; a: nil; b: nil; c: nil | "},
		{"l()", "l: func nil; a: nil; b: nil; c: nil | "},
		{"defer l(1)", "l: func nil; a: int nil; b: int nil; c: int nil | "},
		{"l(1); l(2.5, \"t\")", "l: func nil; a: int nil; b: int nil text; c: int nil text | "},
		{"x := T{}.val; x(T{})", "l: func nil; a: T nil; b: T nil; c: T nil | "},
		{"x := [T{}.val, 1]; x[0](nil(*T))", "l: func nil; a: *T nil; b: *T nil; c: *T nil | "},
		{"x := func(y) { return y }; x(1.5)", "l: func nil; a: float nil; b: float nil; c: float nil | "},
		{"print(1); panic(true)", "l: func nil; a: nil; b: nil; c: nil | "},
	}
	for _, c := range calls {
		want(t, three+"func main() { "+c.s+" }", c.must)
	}
	// What is answered is what all of these return.
	wantSets(t, strings.Replace(three, "var l = ", "var k = ", 1)+"func loose(a, b, c) { return 1.5 }\nvar o = loose\nfunc bound(a, b, c) { return true }\n", "", "T *T", []row{
		{"k()", "text"}, {"k(1)", "nil int text T *T"}, {"k(1, 2)", "nil T *T"}, {"k(1, 2, 3)", "nil float"}, {"k(1, 2, 3, 4)", ""}, {"bound(1, 2, 3)", "nil bool"}, {"loose(1, 2, 3)", "nil float"}, {"loose(1)", "nil float"},
	})
	// Twelve parameters, and more parts than any function takes.
	twelve := "a, b, c, d, e, f, g, h, i, j, k, l"
	want(t, "var z = nil\ntype T = int\nfunc (t T) m("+twelve+") { z = l }\nfunc main() { true(T(1), 1, 2, 3, 4, 5, 6, 7, 8, 9, 10, 11, \"t\"); true(1, 2, 3, 4, 5, 6, 7, 8, 9, 10, 11, 1.5); true(1, 2, 3, 4, 5, 6, 7, 8, 9, 10, 11, 12, 13, true) }", "z: float nil text | ")
}

// Error of fault is a method without parameters.
func TestErrorOfFault(t *testing.T) {
	sets(t, "", row{"true()", "text"}, row{"true(1)", "text"}, row{"true(1, 2)", ""}, row{"(&fault{}).Error()", "text"}, row{"(&fault{}).Error(1)", "text"}, row{"fault.Error(&fault{})", "text"}, row{"(*fault).Error(&fault{})", "text"})
	wantSets(t, "func (t T) Error() { return 1 }\ntype T struct { .*fault }\n", "", "T *T", []row{{"true()", "nil int text"}, {"T{}.Error()", "nil int text"}, {"T{}.fault", "*fault"}, {"T{}.word", "nil text"}})
}

// What comes to a set by another one alone: through answers, parameters, fields, lists, maps, panics, methods.
func TestThroughOtherSets(t *testing.T) {
	for _, s := range []string{
		"func f() { return 1 }\nfunc main() { a = f() }",
		"func f() { return g() }\nfunc g() { return h(1) }\nfunc h(x) { return x }\nfunc main() { a = f() }",
		"func f(x) { a = x }\nfunc main() { f(1) }",
		"func f(x, y) { g(y, x) }\nfunc g(x, y) { a = x }\nfunc main() { f(nil, 1) }",
		"func f(x) { x = 1; a = x }\nfunc main() { f(nil) }",
		"type T struct { x }\nfunc main() { t := T{x: 1}; a = t.x }",
		"type T struct { x }\ntype U struct { x }\nfunc main() { t := T{x: 1}; a = U{}.x }",
		"type T struct { x }\nfunc main() { t := T{}; t.x = 1; a = (&T{}).x }",
		"type T struct { x }\ntype U struct { .T }\nfunc main() { t := T{x: 1}; a = U{}.x }",
		"type T struct { x }\ntype U struct { .*T }\nfunc main() { u := &U{}; u.x = 1; a = T{}.x }",
		"type T struct { x }\ntype U struct { .*T }\nfunc main() { u := &U{}; u.T.x = 1; a = T{}.x }",
		"type T struct { x; y }\nfunc main() { t := T{x: 1}; t.y = t.x; a = t.y }",
		"type P struct { .Q }\nprotocol Q { }\nfunc main() { a = P{Q: 1}.Q }",
		"func main() { l := [1]; a = [][0] }",
		"func main() { l := append([], 1); a = l[0] }",
		"func main() { l := make(1); l[0] = 1; a = l[0] }",
		"func main() { for _, v in [1] { a = v } }",
		"func main() { m := map{\"t\": 1}; a = m[\"t\"] }",
		"func main() { m := map{}; m[nil] = 1; a = m[nil] }",
		"func main() { for k in map{1: nil} { a = k } }",
		"func main() { m := map{}; m[1] = nil; for k in m { a = k } }",
		"func main() { for k, v in map{nil: 1} { a = v } }",
		"func main() { m := map{nil: 1}; x, ok := m[nil]; a = x }",
		"func (t T) m(x) { a = x }\ntype T struct { }\nfunc main() { T{}.m(1) }",
		"func (t *T) m(x) { a = x }\ntype T struct { }\nfunc main() { (&T{}).m(1) }",
		"func (t T) m() { return 1 }\ntype T struct { }\nfunc main() { a = T{}.m().(int) }",
		"func (t *T) m() { return 1 }\ntype T struct { }\nfunc main() { a = (*T).m(nil(*T)).(int) }",
		"func (t T) m(x) { a = x }\ntype T struct { }\nfunc main() { f := T{}.m; f(1) }",
		"func (t T) m(x) { a = x }\ntype T struct { }\nfunc main() { f := T.m; f(T{}, 1) }",
		"func (t T) m(x) { a = x }\ntype T struct { }\ntype U struct { .*T }\nfunc main() { f := (&U{}).m; f(1) }",
		"func (t K) m() { return int(t) }\ntype K = text\nfunc main() { a = K(\"t\").m().(int) }",
		"func f(x) { a = x }\nvar g = f\nfunc main() { g(1) }",
		"func f(x) { a = x }\nfunc main() { for _, g in [f] { g(1) } }",
		"func f(x) { a = x }\nfunc g() { return f }\nfunc main() { g()(1) }",
		"func main() { f := func(x) { a = x }; f(1) }",
		"func main() { a = func() { return 1 }().(int) }",
		"func main() { x := nil; func() { x = 1 }(); a = x }",
		"func main() { x := 1; func() { func() { a = x }() }() }",
		"func main() { a = func() { return func() { return 1 } }()().(int) }",
		"func main() { defer func() { a = recover().(int) }(); panic(1) }",
		"func main() { defer func() { switch v := recover().(type) { case int: a = v } }(); panic(1) }",
		"func main() { x, ok := [1][0].(int); a = x }",
		"func main() { x := nil; y := nil; x, y = [1][0].(int); a = x }",
		"func main() { x := 1; y := x; z := y; a = z }",
		"var b = c\nvar c = d\nvar d = 1\nfunc main() { a = b }",
		"func main() { x := 1; a = x + x }",
		"func main() { x := 1; a = -x }",
		"func main() { x := [1]; y := x[0:]; a = y[0] }",
		"type T struct { x }\nfunc main() { p := &T{x: 1}; q := *p; a = q.x }",
		"func main() { a = 1.5; a = int(a) }",
	} {
		types := "int nil"
		if strings.Contains(s, "1.5") {
			types = "float int nil"
		}
		n := parsed(t, "var a = nil\n"+s)
		if got, _, _ := strings.Cut(typed(t, n), ";"); got != "a: "+types {
			t.Errorf("Z1: %s: %s; must be %s", s, got, types)
		}
		asTheModel(t, n, s)
	}
}
