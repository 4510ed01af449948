package compile_test

import (
	"fmt"
	"strings"
	"testing"
)

// What literals use of the functions around them: one, two, three further out; read, set, stepped, a field of it; parameters and the receiver.
func TestTaken(t *testing.T) {
	t.Parallel()
	wantRows(t, "type T struct { x }\nfunc (t T) each(p) { return func(q) { t.x += p; return func() { t.x += q; p++; return [t.x, p, q] } } }\nfunc (t *T) far(p) { return func() { return func() { return func() { t.x = p; p = [p]; return t } } } }\nfunc counter(n) { return [func() { n++; return n }, func() { return n }] }", []row{
		{"x := 1; f := func() { return x }; x = 2; print(f())", "done: 2"},
		{"x := 1; f := func() { x = 5; x++; x += 2 }; f(); print(x)", "done: 8"},
		{"x := 1; func() { func() { x++; func() { x *= 10 }() }() }(); print(x)", "done: 20"},
		{"x := 1; f := func() { return func() { return func() { x++; return x } } }; g := f()(); print(g(), g(), x)", "done: 2 3 3"},
		{"x := T{x: 1}; func() { x.x = 2; func() { x.x++ }() }(); print(x)", "done: T{x: 3}"},
		{"x := [1, 2]; func() { x[0] = 5; func() { x = append(x, x[0]) }() }(); print(x)", "done: [5, 2, 5]"},
		{"f := T{x: 1}.each(10)(100); print(f(), f())", "done: [111, 11, 100] [211, 12, 100]"},
		{"t := &T{x: 1}; f := t.far(5)()(); print(f(), f(), t)", "done: &T{x: [5]} &T{x: [5]} &T{x: [5]}"},
		{"c := counter(5); d := counter(1); c[0](); d[0](); c[0](); print(c[1](), d[1]())", "done: 7 2"},
		{"l := []; for i in 3 { l = append(l, func() { i++; return i }) }; for _, f in l { print(f(), f()) }", "done: 1 2|2 3|3 4"},
		{"l := []; for k, v in map{1: 2, 3: 4} { l = append(l, func() { v += k; return v }) }; for _, f in l { print(f(), f()) }", "done: 3 4|7 10"},
		{"l := []; n := 0; for n < 3 { x := n; n++; l = append(l, func() { x += n; return x }) }; for _, f in l { print(f()) }", "done: 3|4|5"},
		{"l := []; for _, x in [1, \"a\", nil] { switch v := x.(type) { case int, text: l = append(l, func() { v = [v]; return v }); default: l = append(l, func() { return v }) } }; for _, f in l { print(f(), f()) }", "done: [1] [[1]]|[\"a\"] [[\"a\"]]|nil nil"},
		{"l := []; for i in 2 { a, b := map{0: 5}[i]; l = append(l, func() { return func() { return [a, b, i] } }) }; for _, f in l { print(f()()) }", "done: [5, true, 0]|[nil, false, 1]"},
		{"f := nil; f = func(n) { if n == 0 { return [] }; return append(f(n - 1), n) }; print(f(3))", "done: [1, 2, 3]"},
		{"x := 1; f := func() { return x }; { x := 2; g := func() { return [x, f()] }; x = 3; print(g()) }; x = 4; print(f())", "done: [3, 1]|4"},
		{"x := 1; f := func(x) { return func() { x++; return x } }; g := f(5); x = 9; print(g(), g(), x)", "done: 6 7 9"},
		{"a := 1; f := func(b) { c := 3; return func(d) { e := 5; return func(g) { a += b; c += d; e += g; return [a, b, c, d, e, g] } } }; h := f(2)(4)(6); print(h, a)", "done: [3, 2, 7, 4, 11, 6] 3"},
		{"x := 0; defer func() { print(x, recover()) }(); for i in 5 { defer func() { x += i }(); if i == 2 { panic(i) } }", "done: 3 2"},
		{"x := 1; f := func() { x, y := x.(int); return func() { x++; return [x, y] } }; print(f()(), x)", "done: [2, true] 1"},
	})
}

// Literals in each place where an expression may stand: in conditions, heads, cases, arguments, the program's variables.
func TestLiteralsEverywhere(t *testing.T) {
	t.Parallel()
	wantRows(t, "var g = 3\nvar h = func(a) { return func() { g += a; return g } }(4)\nfunc f(a) { return a() }", []row{
		{"x := 2; if func() { return x == 2 }() { print(1) } else if func() { x = 9 }() { }; print(x)", "done: 1|2"},
		{"x := 0; for func() { x++; return x < 3 }() { y := x; print(f(func() { return y + x })) }", "done: 2|4"},
		{"x := 2; for i in func() { return [x, x] }() { print(func() { x++; return [i, x] }()) }", "done: [0, 3]|[1, 4]"},
		{"x := 2; switch func() { x++; return x }() { case func() { return x + 1 }(), func() { x = 7; return 3 }(): print(f(func() { return x })) }", "done: 7"},
		{"x := 2; switch { case func() { return x > 5 }(): print(1); case func() { x = 6; return true }(): print(x) }", "done: 6"},
		{"x := 2; switch y := func() { return x }().(type) { case int: print(func() { return func() { y += x; return y } }()()) }", "done: 4"},
		{"print(h(), h(), g)", "done: 7 11 11"},
		{"x := map{func() { return 1 }(): func(a) { return a + g }}; print(x[1](g), len(x))", "done: 6 1"},
		{"defer func(a) { print(a(), recover()) }(func() { return g }); panic(func() { return 5 }())", "done: 3 5"},
		{"x := [1]; x[func() { return 0 }()] += func() { x = [7]; return 5 }(); print(x)", "done: [7]"},
	})
}

// A chain of literals as deep as a tree can be: the innermost one uses a variable of each.
func TestDeepLiterals(t *testing.T) {
	t.Parallel()
	const deep = 16
	var all []string
	inner := ""
	for i := range deep {
		all = append(all, fmt.Sprint("v", i))
	}
	inner = "return [" + strings.Join(all, ", ") + "]"
	for i := deep - 1; i >= 0; i-- {
		inner = fmt.Sprintf("v%d := %d; return func(p%d) { v%d += p%d; %s }", i, i*10, i, i, i, inner)
	}
	s := "func f() { " + inner + " }\nfunc main() { g := f(); for i in " + fmt.Sprint(deep) + " { g = g(i) }; print(g) }"
	var must []string
	for i := range deep {
		must = append(must, fmt.Sprint(i*11))
	}
	want(t, s, "done: ["+strings.Join(must, ", ")+"]")
}

// Which variables a literal takes is told by its Taken: each once, those that literals within it use, too, and no others.
func TestTakenOnce(t *testing.T) {
	t.Parallel()
	for _, x := range []struct {
		s     string
		taken []int // how many each function takes
	}{
		{"func main() { x := 1; f := func() { } }", []int{0, 0, 0}},
		{"func main() { x := 1; y := 2; f := func() { x++; print(x, x); x = y } }", []int{0, 0, 2}},
		{"func main() { x := 1; f := func(a) { return func() { return func() { return [x, a] } } } }", []int{0, 0, 1, 2, 2}},
		{"func main() { x := 1; f := func() { x := x; return func() { return x } } }", []int{0, 0, 1, 1}},
		{"func main() { x := 1; f := func() { g := func() { return x }; h := func() { return x }; x = 1 } }", []int{0, 0, 1, 1, 1}},
		{"var g = 1\nfunc main() { f := func() { return func() { g = main } } }", []int{0, 0, 0, 0}},
		{"func main() { for i in 2 { f := func() { for j in i { print(func() { return [i, j] }) } } } }", []int{0, 0, 1, 2}},
	} {
		p := compiledText(t, x.s)
		var got []int
		for _, f := range p.Funcs {
			got = append(got, len(f.Taken))
		}
		if fmt.Sprint(got) != fmt.Sprint(x.taken) {
			t.Errorf("C3: %s: taken are %v; must be %v", x.s, got, x.taken)
		}
	}
}
