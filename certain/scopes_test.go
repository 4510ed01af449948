package certain_test

import "testing"

// Variables of one name are each by themselves.
func TestScopes(t *testing.T) {
	for _, r := range []struct{ statements, must string }{
		{"x := 1; { x := 1.5; x = \"t\" }; a = x", "int nil"},
		{"x := 1; { x := 1.5; a = x }; x = \"t\"", "float nil"},
		{"x := 1; { x = 1.5 }; a = x", "float int nil"},
		{"x := 1; { x = true; x := x; x = 1.5; a = x }", "bool float int nil"},
		{"x := 1; { x := x; a = x; x = 1.5 }; x = \"t\"", "float int nil text"},
		{"x := 1; if x { x := 1.5; x = true } else { x := \"t\"; a = x }", "nil text"},
		{"x := 1; for x in [1.5] { x = true }; a = x", "int nil"},
		{"x := 1; for x in [1.5] { a = x; x = \"t\" }; x = true", "int nil text"},
		{"x := 1; for _, x in [1.5] { x := x; x = \"t\"; a = x }", "float nil text"},
		{"for x in x { a = x }", "int nil"},
		{"x := 1; for { x := 1.5; a = x; break }", "float nil"},
		{"x := 1; func(x) { x = 1.5 }(2); a = x", "int nil"},
		{"x := 1; func(x) { a = x }(\"t\"); x = 1.5", "nil text"},
		{"x := 1; func() { x := 1.5; func() { x = \"t\" }() }(); a = x", "int nil"},
		{"x := 1; func() { x := 1.5; func() { a = x }() }()", "float nil"},
		{"x := 1; func() { func() { x = 1.5 }() }(); a = x", "float int nil"},
		{"x := 1; func(x) { func(x, y) { a = x }(1.5, 1) }(\"t\")", "float nil"},
		{"x := 1; y := 1.5; func() { z := \"t\"; func() { a = x; x = y; y = z }() }()", "float int nil text"},
		{"x := 1; switch x := x.(type) { case int: x = 1.5; case text: a = x; default: x = true }", "nil"},
		{"x := [1, \"t\"][0]; switch x := x.(type) { case int: x = 1.5; case text: a = x; default: x = true }", "nil text"},
		{"x := 1; switch x := 1.5.(type) { case float: x = \"t\"; case int: x = true }; a = x", "int nil"},
		{"x := 1; switch x := 1.5.(type) { case float: { x := true; a = x } }", "bool nil"},
		{"x := 1; switch x { case 1: x := 1.5; a = x; case 2: x = \"t\" }", "float nil"},
		{"x, y := 1.(int); { y, x := 1.5.(float); a = y }", "float nil"},
		{"x := 1; y := func() { return x }; x = 1.5; a = y().(float)", "float nil"},
		{"x := 1; { x, y := x.(int); a = y }; y := 1.5", "bool nil"},
	} {
		after(t, "var x = map{1: true}", r.statements, r.must)
	}
	// A function's, a receiver's, another function's of the same name.
	want(t, "var a = nil\nvar b = nil\nvar c = nil\ntype T struct { }\nfunc f(x) { a = x; x = 1.5 }\nfunc g(x) { b = x }\nfunc (x T) m() { c = x }\nfunc (x *T) n(y) { x = y }\nfunc main() { f(1); g(\"t\"); x := true; x = T{}.m }", "a: float int nil; b: nil text; c: T nil | ")
	want(t, "var x = 1\nvar y = x\nfunc main() { x = 1.5; y := \"t\"; func() { y = true; x = y }() }", "x: bool float int nil text; y: bool float int nil text | ")
	// A receiver may be laid something else into.
	want(t, "var a = nil\nvar b = nil\ntype T struct { }\nfunc (t T) m() { a = t; t = 1 }\nfunc (t *T) n() { b = t; t = \"t\" }\nfunc main() { }", "a: T int nil; b: *T nil text | ")
}

// Literals within literals have their own variables, answers, and numbers of functions between.
func TestLiteralsWithin(t *testing.T) {
	want(t, `var a = nil
var b = nil
var c = nil
func main() {
	x := 1
	f := func(y) {
		z := "t"
		g := func(u, v) {
			x = u
			z = v
			h := func() { a = x; b = y; c = z; return 1.5 }
			return h()
		}
		return g(true, y)
	}
	f([])
}
`, "a: bool int nil; b: list nil; c: list nil text | ")
	want(t, "var a = func() { return func(x) { return func(y, z) { return [x, y, z] } } }\nvar b = a()(1)(1.5, \"t\")[0]\nfunc main() { }", "a: func nil; b: float int nil text | ")
	// One that stands in a variable of the program is in no function.
	want(t, "var a = func(x) { y := x; func() { y = 1.5 }(); b = y; return y }(1)\nvar b = nil\nfunc main() { }", "a: float int nil text; b: float int nil | ")
}
