package walk_test

import "testing"

const kinds = `
type K = int
type G = float
type S = text
type B = bool
type L = list
type M = map
type F = func
type T struct { a; b }
type E struct { .T; .*U; .P; c }
type U struct { u }
protocol P { m(0) }
func (k K) m() { return k }
func (u U) m() { return u.u }
func f(a, b) { return a }
var count = 0
func tick(x) { count++; print("t", count, x); return x }
`

func TestLiterals(t *testing.T) {
	wantRows(t, "00", kinds, []row{
		{`print(0, 7, 9223372036854775807, true, false, nil)`, "done: 0 7 9223372036854775807 true false nil"},
		{`print(1.5, 0.0, 0.1)`, "done: 0x3ff8000000000000 0x0000000000000000 0x3fb999999999999a"},
		{`print("a\"b", ["a\"b"])`, `done: a"b ["a\"b"]`},
		{`l := [1, [2], "x"]; print(l, len(l), cap(l), [], len([]), cap([]))`, `done: [1, [2], "x"] 3 3 [] 0 0`},
		{`a := [1]; b := [1]; a[0] = 2; print(a, b)`, "done: [2] [1]"},
		{`for i in 2 { l := [0]; l[0] += i; print(l) }`, "done: [0]|[1]"},
		{`m := map{1: "a", "b": 2, nil: 3, 1: "c"}; print(m, len(m))`, `done: map{1: "c", "b": 2, nil: 3} 3`},
		{`print(map{0.0: 1, -0.0: 2}, map{-0.0: 1, 0.0: 2})`, "done: map{0x0000000000000000: 2} map{0x8000000000000000: 2}"},
		{`print(map{tick(1): tick(2), tick(3): tick(4)})`, "done: t 1 1|t 2 2|t 3 3|t 4 4|map{1: 2, 3: 4}"},
		{`print(map{tick([]): tick(2), tick(3): tick(4)})`, "panic: t 1 []|t 2 2|t 3 3|t 4 4 <key|list>"},
		{`print(T{}, T{b: 1}, T{b: tick(2), a: tick(3)})`, "done: t 1 2|t 2 3|T{a: nil, b: nil} T{a: nil, b: 1} T{a: 3, b: 2}"},
		{`print(E{}, &E{c: 1}, fault{})`, "done: E{T: T{a: nil, b: nil}, U: nil(*U), P: nil, c: nil} &E{T: T{a: nil, b: nil}, U: nil(*U), P: nil, c: 1} fault{word: nil, more: nil}"},
		{`print(E{T: T{a: 1}, U: &U{u: 2}, P: K(3)})`, "done: E{T: T{a: 1, b: nil}, U: &U{u: 2}, P: K(3), c: nil}"},
		{`print(E{P: nil, U: nil(*U)})`, "done: E{T: T{a: nil, b: nil}, U: nil(*U), P: nil, c: nil}"},
		{`print(E{T: nil})`, "panic:  <conversion|nil is not T>"}, {`print(E{T: &T{}})`, "panic:  <conversion|*T is not T>"}, {`print(E{U: nil})`, "panic:  <conversion|nil is not *U>"}, {`print(E{U: U{}})`, "panic:  <conversion|U is not *U>"},
		{`print(E{P: 5})`, "panic:  <conversion|int is not P: no m>"}, {`print(E{P: T{}, T: 5})`, "panic:  <conversion|T is not P: no m>"}, {`print(E{T: 5, P: T{}})`, "panic:  <conversion|int is not T>"},
		{`p := &T{}; q := &T{}; r := p; print(p == q, p == r, *p == *q)`, "done: false true true"},
		{`print(nil(list), nil(L), nil(map), nil(M), nil(func), nil(F), nil(*T), nil(*fault))`, "done: nil(list) nil(L) nil(map) nil(M) nil(func) nil(F) nil(*T) nil(*fault)"},
		{`g := func(a, b) { return [b, a] }; print(g(1, 2), g)`, "done: [2, 1] func"},
		{`x := 1; g := func() { x++; return x }; print(g(), g(), x); x = 9; print(g())`, "done: 2 3 3|10"},
	})
}

func TestNames(t *testing.T) {
	want(t, "00", "var a = b\nvar b = 5\nvar c = b\nfunc main() { print(a, b, c) }", "done: nil 5 5")
	want(t, "00", "var a = f()\nvar b = 5\nfunc f() { return b }\nfunc main() { print(a, f()) }", "done: nil 5")
	want(t, "00", "var a = print(1)\nvar b = print(2)\nfunc main() { print(3, a) }", "done: 1|2|3 nil")
	want(t, "00", "func print(x) { return len(x) }\nfunc main() { x := print(\"abc\"); panic(x) }", "panic:  {3}")
	wantRows(t, "00", kinds, []row{
		{`x := 1; { x := 2; x = 3; print(x) }; print(x)`, "done: 3|1"},
		{`x := 1; { g := func() { return x }; x := 2; print(g(), x) }`, "done: 1 2"},
		{`len := 3; print(len)`, "done: 3"},
		{`g := f; print(g(1, 2), f)`, "done: 1 func"},
		{`for i in 2 { x := i; g := func() { x += 10; return x }; print(g(), g(), x) }`, "done: 10 20 20|11 21 21"},
		{`l := []; i := 0; for i < 3 { j := i; l = append(l, func() { i++; return j }); i++ }; print(l[0](), l[2](), i)`, "done: 0 2 5"},
	})
}

func TestConversions(t *testing.T) {
	wantRows(t, "00", kinds, []row{
		{`print(K(5), int(K(5)), K(K(5)), G(1.5), S("a"), B(true), bool(B(false)), text(S("x")), float(G(1.0)) == 1.0)`, `done: K(5) 5 K(5) G(0x3ff8000000000000) S("a") B(true) false x true`},
		{`print(int(1.9), int(-1.9), K(2.5), int(float(9007199254740993)), int(1.0 / 0.0), int(0.0 / 0.0))`, "done: 1 -1 K(2) 9007199254740992 -9223372036854775808 -9223372036854775808"},
		{`print(float(3), G(3), float(K(2)), int(G(2.7)))`, "done: 0x4008000000000000 G(0x4008000000000000) 0x4000000000000000 2"},
		{`l := [1, 2]; k := L(l); k[0] = 9; print(l, k, list(k), L(nil(list)), nil(L) == nil)`, "done: [9, 2] L([9, 2]) [9, 2] nil(L) false"},
		{`m := map{1: 2}; k := M(m); k[1] = 9; print(m, k, map(k), map(nil(M)))`, "done: map{1: 9} M(map{1: 9}) map{1: 9} nil(map)"},
		{`g := F(f); print(g, g(7, 8), F(g), typeof(g))`, "done: F(func) 7 F(func) F"},
		{`print(int("1"))`, "panic:  <operand|int text>"}, {`print(text(1))`, "panic:  <operand|text int>"}, {`print(K(nil))`, "panic:  <operand|K nil>"}, {`print(L(map{}))`, "panic:  <operand|L map>"}, {`print(F(nil))`, "panic:  <operand|F nil>"}, {`print(int(&T{}))`, "panic:  <operand|int *T>"}, {`print(B(0))`, "panic:  <operand|B int>"}, {`print(float(true))`, "panic:  <operand|float bool>"}, {`print(list(T{}))`, "panic:  <operand|list T>"}, {`print(map([]))`, "panic:  <operand|map list>"},
	})
}

func TestOperations(t *testing.T) {
	wantRows(t, "00", kinds, []row{
		{`print(7 + 2, 7 - 9, 7 * 3, -7 / 2, -7 % 2, 6 & 3, 6 | 3, 6 ^ 3, 1 << 62, -8 >> 1, ^5, -(5), 1 << 64, -1 >> 70)`, "done: 9 -2 21 -3 -1 2 7 5 4611686018427387904 -4 -6 -5 0 -1"},
		{`print(9223372036854775807 + 1, -9223372036854775807 - 2)`, "done: -9223372036854775808 9223372036854775807"},
		{`print(1.5 + 2.0, 1.0 / 0.0, 0.0 / 0.0, -0.0, -(1.5))`, "done: 0x400c000000000000 0x7ff0000000000000 nan 0x8000000000000000 0xbff8000000000000"},
		{`print("a" + "bc", S("a") + S("b"), K(3) + K(4), K(3) < K(4), "a" < "ab", 2.0 >= 2.0, 1 <= 0)`, `done: abc S("ab") K(7) true true true false`},
		{`print(!true, !B(true), !false)`, "done: false B(false) true"},
		{`print(1 + 2.0)`, "panic:  <operand|+ int float>"}, {`print(1 + K(1))`, "panic:  <operand|+ int K>"}, {`print("a" - "b")`, "panic:  <operand|- text text>"}, {`print(1.0 % 2.0)`, "panic:  <operand|% float float>"}, {`print(true + true)`, "panic:  <operand|+ bool bool>"}, {`print(nil + nil)`, "panic:  <operand|+ nil nil>"}, {`print(true < false)`, "panic:  <operand|< bool bool>"}, {`print([1] + [2])`, "panic:  <operand|+ list list>"}, {`print(&T{} + T{})`, "panic:  <operand|+ *T T>"},
		{`print(-"a")`, "panic:  <operand|- text>"}, {`print(!1)`, "panic:  <operand|! int>"}, {`print(^1.0)`, "panic:  <operand|^ float>"}, {`print(-nil)`, "panic:  <operand|- nil>"}, {`print(!&T{})`, "panic:  <operand|! *T>"},
		{`print(1 / 0)`, "panic:  <divide|>"}, {`print(1 % 0)`, "panic:  <divide|>"}, {`print(1 << -1)`, "panic:  <count|-1>"}, {`print(1 >> -5)`, "panic:  <count|-5>"},
		{`print(tick(1) + tick("a"))`, "panic: t 1 1|t 2 a <operand|+ int text>"}, {`print(tick([]) == tick([]))`, "panic: t 1 []|t 2 [] <compare|list>"},
		{`p := &T{a: 1}; q := *p; q.a = 2; print(*p, q)`, "done: T{a: 1, b: nil} T{a: 2, b: nil}"}, {`print(*nil(*T))`, "panic:  <nil|pointer>"}, {`print(*5)`, "panic:  <operand|* int>"}, {`print(*nil)`, "panic:  <operand|* nil>"}, {`print(*T{})`, "panic:  <operand|* T>"},
		{`print(true && tick(true), false && tick(true), true || tick(true), false || tick(false))`, "done: t 1 true|t 2 false|true false true false"},
		{`print(1 && true)`, "panic:  <operand|&& int>"}, {`print(true && 1)`, "panic:  <operand|&& bool int>"}, {`print(B(true) && true)`, "panic:  <operand|&& B>"}, {`print(false || B(true))`, "panic:  <operand||| bool B>"}, {`print(nil || true)`, "panic:  <operand||| nil>"}, {`print(false || nil)`, "panic:  <operand||| bool nil>"},
		{`print(true || 1, false && 1)`, "done: true false"},
		{`x := 1; print(x + func() { x = 10; return x }(), x); s := "a"; print(s + func() { s = "b"; return s }() + s)`, "done: 11 10|abb"}, {`l := [1, 2]; print(l[func() { l = [9]; return 1 }()], [l, func() { l[0] = 8; return 0 }(), l]); x := T{a: 1}; print([x, func() { x.a = 2; return 0 }(), x])`, "done: 2 [[8], 0, [8]]|[T{a: 1, b: nil}, 0, T{a: 2, b: nil}]"},
	})
}

func TestEqual(t *testing.T) {
	wantRows(t, "00", kinds+"type Z struct { .U; z; w }\n", []row{
		{`print(nil == nil, nil == 1, 1 == nil, nil == nil(list), nil(*T) == nil, nil == nil(func), nil != nil)`, "done: true false false false false false false"},
		{`print(1 == 1, 1 == 2, 1 == 1.0, 1 == K(1), K(1) == K(1), "a" == "a", "a" == S("a"), true == true, true == B(true))`, "done: true false false false true true false true false"},
		{`n := 0.0 / 0.0; print(n == n, n != n, 0.0 == -0.0, 1.5 == 1.5)`, "done: false true true true"},
		{`p := &T{}; print(p == p, p == &T{}, nil(*T) == nil(*T), nil(*T) == nil(*U), p == nil(*T), p == *p)`, "done: true false true false false false"},
		{`print(T{a: 1} == T{a: 1}, T{a: 1} == T{a: 2}, T{} == U{}, T{a: T{b: 1}} == T{a: T{b: 1}}, T{a: 1} != T{a: 1.0})`, "done: true false false true true"},
		{`print(T{a: 1, b: []} == T{a: 2, b: []})`, "done: false"}, {`print(T{a: 1, b: []} == T{a: 1, b: []})`, "panic:  <compare|list>"}, {`print(T{a: [], b: 1} == T{a: 1, b: 1})`, "done: false"}, {`print(T{a: 1, b: L([])} == T{a: 1, b: []})`, "done: false"},
		{`print([] == [])`, "panic:  <compare|list>"}, {`print(nil(L) == L([]))`, "panic:  <compare|L>"}, {`print(map{} != map{})`, "panic:  <compare|map>"}, {`print(f == f)`, "panic:  <compare|func>"}, {`print(nil(F) == nil(F))`, "panic:  <compare|F>"}, {`print([] == map{}, [] == L([]), f == F(f), [] == 1)`, "done: false false false false"},
		{`print(T{a: 0.0 / 0.0, b: []} == T{a: 0.0 / 0.0, b: []})`, "done: false"},
		{`print(Z{U: U{u: 1}} == Z{U: U{u: 1}}, Z{U: U{u: []}} == Z{U: U{u: 1}})`, "done: true false"}, {`print(Z{U: U{u: []}} == Z{U: U{u: []}})`, "panic:  <compare|list>"},
		{`m := map{T{a: 1}: "x", 1: "i", 1.0: "f", K(1): "k", "1": "t", true: "b", nil: "n", &T{}: "p"}; print(m[T{a: 1}], m[1], m[1.0], m[K(1)], m["1"], m[true], m[nil], m[&T{}], m[S("1")], m[T{a: 1.0}])`, "done: x i f k t b n nil nil nil"},
		{`p := &T{}; m := map{p: 1, nil(*T): 2, T{a: p}: 3}; p.a = 5; print(m[p], m[nil(*T)], m[nil(*U)], m[T{a: p}], m[T{a: &T{}}])`, "done: 1 2 nil 3 nil"},
		{`n := 0.0 / 0.0; m := map{n: 1, n: 2, T{a: n}: 3}; m[n] = 4; delete(m, n); print(m[n], len(m), m[T{a: n}]); for k, v in m { print(k, v) }`, "done: nil 4 nil|nan 1|nan 2|T{a: nan, b: nil} 3|nan 4"},
		{`m := map{}; m[T{a: "x", b: "y"}] = 1; m[T{a: "xy", b: ""}] = 2; m[T{a: T{a: 1}, b: 2}] = 3; m[T{a: 1, b: T{a: 2}}] = 4; print(len(m), m[T{a: "x", b: "y"}], m[T{a: T{a: 1}, b: 2}])`, "done: 4 1 3"},
		{`m := map{0.0: 1}; m[-0.0] = 2; print(m); delete(m, -0.0); m[-0.0] = 3; print(m, m[0.0], T{a: 0.0} == T{a: -0.0}, map{T{a: 0.0}: 1}[T{a: -0.0}])`, "done: map{0x0000000000000000: 2}|map{0x8000000000000000: 3} 3 true 1"},
		{`print(map{[]: 1})`, "panic:  <key|list>"}, {`print(map{}[L([])])`, "panic:  <key|L>"}, {`print(nil(map)[f])`, "panic:  <key|func>"}, {`delete(map{}, T{a: 1, b: map{}})`, "panic:  <key|map>"}, {`delete(nil(map), nil(list))`, "panic:  <key|list>"}, {`x, ok := map{}[nil(M)]`, "panic:  <key|M>"}, {`m := map{}; m[T{a: T{b: f}}] = 1`, "panic:  <key|func>"},
		{`m := map{}; m[T{a: 0.0 / 0.0, b: []}] = 1; print(len(m), m[T{a: 0.0 / 0.0, b: []}])`, "done: 1 nil"}, {`m := map{}; m[T{a: [], b: 0.0 / 0.0}] = 1`, "panic:  <key|list>"},
	})
}

// A text may be a key however long it is, and types of any name may.
func TestOddKeys(t *testing.T) {
	wantMain(t, "00", "", `s := "a"; for i in 16 { s += s }; m := map{s: 1, s[1:]: 2}; print(m[s], m[s[1:]], m[s[2:]], len(m))`, "done: 1 2 nil 2")
	parts := "type T struct { a }\nfunc (t *T) me() { return t }\ntype E struct { .T; .D; x }\ntype D struct { .U; y }\ntype U struct { u }\nfunc (u *U) you() { return u }\n"
	wantMain(t, "00", parts, `e := &E{}; f := &E{}; m := map{e: 1, e.me(): 2, e.you(): 3, f.me(): 4, nil(*T): 5}; print(m[e], m[e.me()], m[e.you()], m[f.me()], m[f.you()], m[nil(*T)], m[f], len(m))`, "done: 1 2 3 4 nil 5 nil 5")
	wantMain(t, "00", parts, `e := &E{}; k := map{E{x: e.me()}: 1, E{x: e.you()}: 2}; print(k[E{x: e.me()}], k[E{x: e.you()}], k[E{x: e}], e.me() == e.me(), e.you() == (&E{}).you())`, "done: 1 2 nil true false")
	wantMain(t, "00", "type Z struct { }\ntype T struct { a; b }\n", `m := map{Z{}: 1, nil(*Z): 2, T{a: Z{}}: 3, T{a: nil(*Z)}: 4, T{}: 5}; print(m[Z{}], m[nil(*Z)], m[T{a: Z{}}], m[T{a: nil(*Z)}], m[T{}])`, "done: 1 2 3 4 5")
	wantMain(t, "00", "type T struct { a }\nfunc (t *T) me() { return t }\ntype A struct { .T }\nfunc (a *A) one() { return a.me() }\ntype B struct { .T }\nfunc (b *B) two() { return b.me() }\ntype E struct { .A; .B; e }\n", `e := &E{}; m := map{e.one(): 1, e.two(): 2, E{e: e.one()}: 3, E{e: e.two()}: 4}; print(e.one() == e.two(), len(m), m[e.one()], m[e.two()], m[E{e: e.one()}]); e.one().a = 7; print(e.A, e.B)`, "done: false 4 1 2 3|A{T: T{a: 7}} B{T: T{a: nil}}")
	for _, sep := range []string{`"\x040  text  "`, `"\x040 4 text 1 "`, `" "`, `"\x000  "`, `""`} {
		wantMain(t, "00", "type T struct { a; b }", `s := `+sep+`; m := map{T{a: "p" + s + "q", b: "r"}: 1}; x, ok := m[T{a: "p", b: "q" + s + "r"}]; print(ok)`, "done: false")
	}
	wantAlone(t, "00", "type pointer struct { a }\ntype struct_ = int\nfunc main() { p := pointer{a: 1}; q := &pointer{a: p}; m := map{p: 1, q: 2}; print(p == pointer{a: 1}, q == q, m[p], m[q], p, q, q.(*pointer).a.(pointer).a, struct_(1) == struct_(1)) }", "done: true true 1 2 pointer{a: 1} &pointer{a: pointer{a: 1}} 1 true")
	wantAlone(t, "00", "type pointer = list\nfunc main() { print(pointer([]) == pointer([])) }", "panic:  <compare|pointer>")
}

func TestIndexes(t *testing.T) {
	wantRows(t, "00", kinds, []row{
		{`l := [7, 8, 9]; print(l[0], l[2], L(l)[1], l[K(1)], "abc"[1], S("abc")[0], map{1: 2}[1], map{1: 2}[2], nil(map)[1], M(map{"k": 1})["k"])`, "done: 7 9 8 8 98 97 2 nil nil 1"},
		{`print(typeof("abc"[0]), typeof(S("abc")[0]))`, "done: int int"},
		{`print([1][1])`, "panic:  <range|index 1 of 1>"}, {`print([1][-1])`, "panic:  <range|index -1 of 1>"}, {`print([][0])`, "panic:  <range|index 0 of 0>"}, {`print(nil(list)[0])`, "panic:  <range|index 0 of 0>"}, {`print("ab"[2])`, "panic:  <range|index 2 of 2>"}, {`print([1, 2, 3][0:1][1])`, "panic:  <range|index 1 of 1>"}, {`print([1][K(4)])`, "panic:  <range|index 4 of 1>"},
		{`print([1]["a"])`, "panic:  <operand|[] list text>"}, {`print("a"[1.0])`, "panic:  <operand|[] text float>"}, {`print(5[0])`, "panic:  <operand|[] int int>"}, {`print(nil[nil])`, "panic:  <operand|[] nil nil>"}, {`print((&T{})["a"])`, "panic:  <operand|[] *T text>"}, {`print(L([])[nil])`, "panic:  <operand|[] L nil>"}, {`print(f[[]])`, "panic:  <operand|[] func list>"},
		{`print(tick([1])[tick(5)])`, "panic: t 1 [1]|t 2 5 <range|index 5 of 1>"}, {`print(tick(1)[tick("a")])`, "panic: t 1 1|t 2 a <operand|[] int text>"},
		{`x, ok := map{1: nil}[1]; y, is := map{}[2]; z, no := nil(map)[3]; print(x, ok, y, is, z, no)`, "done: nil true nil false nil false"},
		{`x, ok := [1][0]`, "panic:  <operand|[] list int>"}, {`x, ok := "a"[[]]`, "panic:  <operand|[] text list>"}, {`x, ok := nil[nil]`, "panic:  <operand|[] nil nil>"}, {`x, ok := tick(map{})[tick([])]`, "panic: t 1 map{}|t 2 [] <key|list>"},
	})
}

func TestSlices(t *testing.T) {
	wantRows(t, "00", kinds, []row{
		{`l := [1, 2, 3, 4]; print(l[1:3], l[:2], l[2:], l[:], l[4:], cap(l[1:3]), cap(l[1:2:3]), len(l[1:1]), l[0:2][1:4], L(l)[1:2])`, "done: [2, 3] [1, 2] [3, 4] [1, 2, 3, 4] [] 3 2 0 [2, 3, 4] L([2])"},
		{`l := [1, 2, 3]; k := l[1:]; k[0] = 9; print(l); k = l[0:1:1]; k = append(k, 8); print(l, k)`, "done: [1, 9, 3]|[1, 9, 3] [1, 8]"},
		{`l := [1, 2]; print(l[:1][:2], l[:0][:], l[K(1):K(2)])`, "done: [1, 2] [] [2]"},
		{`print("abc"[1:], "abc"[:2], "abc"[1:2], "abc"[:], "abc"[3:], S("abc")[1:], ""[0:0])`, `done: bc ab b abc  S("bc") `},
		{`print(nil(list)[:], nil(L)[0:0:0], nil(list)[:] == nil, len(nil(list)[0:]))`, "done: nil(list) nil(L) false 0"},
		{`print([1, 2][1:5])`, "panic:  <range|slice 1 5 of 2>"}, {`print([1, 2][2:1])`, "panic:  <range|slice 2 1 of 2>"}, {`print([1, 2][-1:])`, "panic:  <range|slice -1 2 of 2>"}, {`print([1, 2][3:])`, "panic:  <range|slice 3 2 of 2>"}, {`print([1, 2][:1][2:])`, "panic:  <range|slice 2 1 of 2>"}, {`print([1][:-1])`, "panic:  <range|slice 0 -1 of 1>"},
		{`print([1, 2][0:1:3])`, "panic:  <range|slice 0 1 3 of 2>"}, {`print([1, 2][0:2:1])`, "panic:  <range|slice 0 2 1 of 2>"}, {`print([1, 2][:1:-1])`, "panic:  <range|slice 0 1 -1 of 2>"}, {`print([1, 2][2:1:2])`, "panic:  <range|slice 2 1 2 of 2>"}, {`print(nil(list)[0:0:1])`, "panic:  <range|slice 0 0 1 of 0>"}, {`print([1][:][1:1:1], [1][0:0:0])`, "done: [] []"},
		{`print("ab"[1:3])`, "panic:  <range|slice 1 3 of 2>"}, {`print("ab"[2:1])`, "panic:  <range|slice 2 1 of 2>"}, {`print("ab"[-1:])`, "panic:  <range|slice -1 2 of 2>"},
		{`print("ab"[0:1:1])`, "panic:  <operand|[:] text>"}, {`print("ab"[nil:1:1])`, "panic:  <operand|[:] text>"}, {`print(5[1:])`, "panic:  <operand|[:] int>"}, {`print(nil[:])`, "panic:  <operand|[:] nil>"}, {`print(map{}["a":])`, "panic:  <operand|[:] map>"},
		{`print([1]["a":nil])`, "panic:  <operand|[:] list text>"}, {`print([1][5:nil])`, "panic:  <operand|[:] list nil>"}, {`print([1][:1:1.0])`, "panic:  <operand|[:] list float>"}, {`print(S("a")[true:])`, "panic:  <operand|[:] S bool>"}, {`print("a"[:&T{}])`, "panic:  <operand|[:] text *T>"},
		{`print(tick([1])[tick(0):tick(1):tick("x")])`, "panic: t 1 [1]|t 2 0|t 3 1|t 4 x <operand|[:] list text>"}, {`print(tick(1)[tick(nil):tick(2)])`, "panic: t 1 1|t 2 nil|t 3 2 <operand|[:] int>"},
	})
}

func TestAssertions(t *testing.T) {
	wantRows(t, "W7", kinds, []row{
		{`print(1.(int), "a".(text), K(1).(K), (&T{}).(*T), T{}.(T), nil(*U).(*U), [].(list), 1.(any), nil(L).(any), K(2).(P), nil(*U).(P))`, "done: 1 a K(1) &T{a: nil, b: nil} T{a: nil, b: nil} nil(*U) [] 1 nil(L) K(2) nil(*U)"},
		{`print(1.(K))`, "panic:  <conversion|int is not K>"}, {`print(K(1).(int))`, "panic:  <conversion|K is not int>"}, {`print((&T{}).(T))`, "panic:  <conversion|*T is not T>"}, {`print(T{}.(*T))`, "panic:  <conversion|T is not *T>"}, {`print(nil.(int))`, "panic:  <conversion|nil is not int>"}, {`print(nil.(any))`, "panic:  <conversion|nil is not any>"}, {`print(nil.(P))`, "panic:  <conversion|nil is not P>"}, {`print(nil.(*T))`, "panic:  <conversion|nil is not *T>"}, {`print(T{}.(P))`, "panic:  <conversion|T is not P: no m>"}, {`print(1.(error))`, "panic:  <conversion|int is not error: no Error>"}, {`print(nil(list).(L))`, "panic:  <conversion|list is not L>"}, {`print(fault{}.(error))`, "panic:  <conversion|fault is not error: no Error>"}, {`print((&fault{}).(error))`, "done: &fault{word: nil, more: nil}"},
		{`x, ok := 1.(int); y, is := 1.(text); z, no := nil.(any); print(x, ok, y, is, z, no)`, "done: 1 true nil false nil false"},
	})
	wantRows(t, "W7", kinds, []row{
		{`x := 0; y := 0; x, y = 1.(int); print(x, y); x, x = 1.(int); print(x); x, x = 1.(text); print(x); x, x = map{1: 2}[1]; print(x); x, x = map{}[1]; print(x)`, "done: 1 true|true|false|true|false"},
		{`x, ok := tick(K(1)).(P); print(x, ok)`, "done: t 1 K(1)|K(1) true"},
	})
}
