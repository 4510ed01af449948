package machine_test

import (
	"testing"
)

// Keys are told apart by all that they are: pointers by where they lead, structs part by part.
func TestKeys(t *testing.T) {
	two := func(a, b string) string {
		return "struct 0 'E'; object; fresh 0; struct 0 'E'; object; fresh 1; " + a + "; int '1'; " + b + "; int '2'; map 2; built 1 'len'"
	}
	T := func(x, y string) string { return x + "; " + y + "; struct 2 'T x y'" }
	part := func(slot string) string {
		return "load " + slot + "; select 1 'set'; nil; call 1"
	}
	ask(t, tableOf(t, someTypes), []asked{
		{two("load 0", "load 1"), "2 int"},
		{two("load 0", "load 0"), "1 int"},
		{two(part("0"), part("0")), "1 int"},
		{two(part("0"), part("1")), "2 int"},
		{two("load 0", part("0")), "2 int"},
		{two("nilof 1 'T'", "nilof 1 'E'"), "2 int"},
		{two("nilof 1 'T'", "nilof 1 'T'"), "1 int"},
		{two("nilof 1 'E'", "load 0"), "2 int"},
		{two("nil", "nilof 1 'T'"), "2 int"},
		{two("nil", "nil"), "1 int"},
		{two("int '1'", "float '3ff0000000000000'"), "2 int"},
		{two("int '1'", "int '1'; convert 2 'K'"), "2 int"},
		{two("int '0'", "bool 0"), "2 int"},
		{two("int '1'", "int '-1'"), "2 int"},
		{two("bool 0", "bool 1"), "2 int"},
		{two("text ''", "nil"), "2 int"},
		{two("text 'a'", "text 'b'"), "2 int"},
		{two("text '1'", "int '1'"), "2 int"},
		{two("float '0000000000000000'", "float '8000000000000000'"), "1 int"},
		{two("float '7ff8000000000001'", "float '7ff8000000000001'"), "2 int"},
		{two(T("int '1'", "int '2'"), T("int '1'", "int '2'")), "1 int"},
		{two(T("int '1'", "int '2'"), T("int '1'", "int '3'")), "2 int"},
		{two(T("int '1'", "int '2'"), T("int '2'", "int '1'")), "2 int"},
		{two(T("int '1'", "int '12'"), T("int '11'", "int '2'")), "2 int"},
		{two(T("text 'a'", "text ''"), T("text ''", "text 'a'")), "2 int"},
		{two(T("text 'ab'", "text 'c'"), T("text 'a'", "text 'bc'")), "2 int"},
		{two(T("text ' 4 text 0 '", "text ''"), T("text ''", "text ' 4 text 0 '")), "2 int"},
		{two(T("text ''", "text '\x040 4 text 0 '"), T("text '\x040 4 text 0 '", "text ''")), "2 int"},
		{two(T("text 'x'", "text '4 text'"), T("text 'x 4 text'", "text ''")), "2 int"},
		{two(T("float '0000000000000000'", "nil"), T("float '8000000000000000'", "nil")), "1 int"},
		{two(T("float '7ff8000000000001'", "nil"), T("float '7ff8000000000001'", "nil")), "2 int"},
		{two(T("float '7ff8000000000001'", "list 0"), T("nil", "nil")), "2 int"},
		{two(T("load 0", "nil"), T("load 1", "nil")), "2 int"},
		{two(T("load 0", "nil"), T("load 0", "nil")), "1 int"},
		{two(T("load 0", "nil"), T(part("0"), "nil")), "2 int"},
		{two(T(T("int '1'", "nil"), "nil"), T("nil", T("int '1'", "nil"))), "2 int"},
		{two(T("nil", "nil"), "struct 0 'E'"), "2 int"},
		{two(T("int '1'", "nil"), T("int '1'; convert 2 'K'", "nil")), "2 int"},
		{two(T("struct 0 'Z'", "nil"), T("nilof 1 'Z'", "nil")), "2 int"},
		{two("struct 0 'Z'", "nilof 1 'Z'"), "2 int"},
		{two("struct 0 'Z'", "struct 0 'Z'"), "1 int"},
	})
}

// The key under which something lies is the first one that came; in the turn it is told as it stands there then.
func TestKeysInTurns(t *testing.T) {
	for _, s := range []string{
		"func main() { m := map{0.0: 1}; m[-0.0] = 2; print(m); delete(m, -0.0); m[-0.0] = 3; print(m) }",
		"func main() { m := map{1: 1, 0.0: 2, 2: 3}; for k, v in m { print(k, v); if k == 1 { delete(m, 0.0); m[-0.0] = 9 } } ; print(m) }",
		"type T struct { x }\nfunc main() { m := map{1: 1, T{x: 0.0}: 2}; for k, v in m { print(k, v); delete(m, T{x: -0.0}); m[T{x: -0.0}] = 7 } }",
		"func main() { n := 0.0 / 0.0; m := map{n: 1, 5: 2, n: 3}; print(len(m), m[n]); for k, v in m { print(k, v); delete(m, k); m[n] = 4; delete(m, 5) }; print(m) }",
		"func main() { m := map{1: 1, 2: 2, 3: 3}; for k, v in m { delete(m, 2); m[3] = [k]; m[4] = 4; print(k, v) }; print(m) }",
		"func main() { m := map{1: 1, 2: 2}; for a, b in m { for c, d in m { delete(m, a); m[a] = c; print(a, b, c, d) } } }",
		"func main() { m := map{}; for i in 20 { m[i] = i }; for k, v in m { for j in 10 { delete(m, j * 2) }; print(k, v) } }",
		"func main() { l := [1, 2, 3]; for i, v in l { l[2] = i; l = append(l, v); print(i, v) }; print(l) }",
		"func main() { s := \"abc\"; for i, v in s { s = \"x\"; print(i, v, s) } }",
		"func main() { n := 3; for i, v in n { n = 0; i = 7; print(i, v) } }",
		"func main() { for i in -5 { print(i) }; for i in 0 { print(i) } }",
		"func main() { for i in 9223372036854775807 { print(i); if i == 3 { break } } }",
		"type K = int\nfunc main() { for i, v in K(2) { print(i, v, typeof(i)) }; for i in nil { } }",
		"func main() { for i in func() { } { } }",
		"type T struct { x }\ntype E struct { .T; z }\nfunc (t *T) me() { return t }\nfunc main() { a := &E{}; b := &E{}; m := map{a: 1, b: 2, a.me(): 3, b.me(): 4}; c := &E{}; m[c] = 5; print(m[a], m[b], m[a.me()], m[b.me()], m[c], m[c.me()]); m[&E{z: 1}] = 8; m[&E{z: 2}] = 9; m[&E{z: 3}] = 9; m[&T{x: a}] = 6; m[T{x: a}] = 7; d := &E{}; print(len(m), m[d], m[T{x: b}], m[T{x: a}], a == a, a == b, b.me() == b.me()) }",
	} {
		asWalk(t, s, 400, 5)
		asWalk(t, s, 400, 5, 1)
	}
}
