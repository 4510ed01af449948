package walk_test

import "testing"

func TestControl(t *testing.T) {
	wantRows(t, "00", kinds, []row{
		{`if true { print(1) } else { print(2) }; if B(false) { print(3) } else if B(true) { print(4) } else { print(5) }; if false { print(6) }`, "done: 1|4"},
		{`if 1 { }`, "panic:  <bool|int>"}, {`if nil { }`, "panic:  <bool|nil>"},
		{`if false { } else if "a" { }`, "panic:  <bool|text>"}, {`for nil(*T) { }`, "panic:  <bool|*T>"}, {`for 0 { }`, "panic:  <bool|int>"},
		{`i := 0; for i < 3 { i++; if i == 2 { continue }; print(i) }`, "done: 1|3"}, {`i := 0; for { i++; if i > 2 { break } }; print(i)`, "done: 3"}, {`for false { print(1) }`, "done: "}, {`i := 0; for B(i < 2) { i++ }; print(i)`, "done: 2"},
		{`L: for i in 3 { for j in 3 { if j == 1 { continue L }; if i == 2 { break L }; print(i, j) } }`, "done: 0 0|1 0"},
		{`L: for i in 2 { switch i { case 0: continue L; default: break L }; print("no") }`, "done: "}, {`L: switch { default: for { break L } }; print(1)`, "done: 1"}, {`for i in 3 { switch { default: break }; print(i) }`, "done: 0|1|2"}, {`for i in 2 { switch { default: continue }; print("no") }`, "done: "}, {`L: for { L2: switch { default: for { break L2 } }; break }; print(2)`, "done: 2"}, {`L: switch 1.(type) { case int: for { break L } }; print(3)`, "done: 3"},
		{`f := func() { for i in 5 { for { return i } } }; print(f())`, "done: 0"}, {`f := func() { switch 1 { case 1: for k in map{1: 2} { return k } }; return "no" }; print(f())`, "done: 1"}, {`f := func() { return }; print(f())`, "done: nil"}, {`f := func() { print(1); return 2; print(3) }; print(f())`, "done: 1|2"},
	})
}

func TestRanges(t *testing.T) {
	wantRows(t, "00", kinds, []row{
		{`for i, v in 2 { print(i, v) }; for i in K(2) { print(typeof(i), i) }; for i in -1 { print("no") }`, "done: 0 nil|1 nil|int 0|int 1"},
		{`for i, v in [7, 8] { print(i, v) }; for _, v in L([9]) { print(v) }; for _ in [1, 2] { print("x") }`, "done: 0 7|1 8|9|x|x"},
		{`for i, v in "hé" { print(i, v) }; for _, v in S("a") { print(v) }; for i in "" { print("no") }`, "done: 0 104|1 195|2 169|97"},
		{`for k, v in map{"b": 1, "a": 2} { print(k, v) }; for k in M(map{1: 2}) { print(k) }; for _, v in map{1: nil} { print(v) }`, "done: b 1|a 2|1|nil"},
		{`for i in nil(list) { print("no") }; for i in nil(map) { print("no") }; for i in nil(M) { print("no") }; for i in [] { print("no") }`, "done: "},
		{`for i in nil { }`, "panic:  <operand|in nil>"}, {`for i in 1.5 { }`, "panic:  <operand|in float>"},
		{`for i in (T{}) { }`, "panic:  <operand|in T>"}, {`for i in true { }`, "panic:  <operand|in bool>"}, {`for i in f { }`, "panic:  <operand|in func>"}, {`for i in nil(*T) { }`, "panic:  <operand|in *T>"},
		{`l := [1, 2, 3]; for i, v in l { l[2] = 9; l = append(l, 4); l[1] = 7; print(v) }; print(l)`, "done: 1|2|9|[1, 7, 9, 4, 4, 4]"},
		{`l := [1, 2, 3][:2]; for i, v in l { l = append(l, 5); print(v, len(l)) }`, "done: 1 3|2 4"},
		{`n := 2; for i in n { n = 10; i = 7; print(i, n) }`, "done: 7 10|7 10"},
		{`s := "ab"; for i, c in s { s = "xyz"; print(c) }`, "done: 97|98"},
		{`m := map{1: "a", 2: "b", 3: "c"}; for k, v in m { delete(m, 2); m[3] = "z"; m[4] = "n"; print(k, v) }; print(m)`, `done: 1 a|3 z|map{1: "a", 3: "z", 4: "n"}`},
		{`m := map{1: "a", 2: "b"}; for k, v in m { delete(m, 2); m[5] = 1; m[2] = "again"; print(k, v) }; print(m)`, `done: 1 a|2 again|map{1: "a", 5: 1, 2: "again"}`},
		{`m := map{1: "a", 0.0: "b"}; for k, v in m { delete(m, 0.0); m[-0.0] = "c"; print(k, v) }`, "done: 1 a|0x8000000000000000 c"},
		{`m := map{1: "a", 2: "b"}; for k, v in m { k = 7; v = 8; print(k, v) }; print(m)`, `done: 7 8|7 8|map{1: "a", 2: "b"}`},
		{`m := map{1: "a", 2: "b"}; for k in m { for j in m { print(k, j) }; delete(m, 2) }`, "done: 1 1|1 2"},
		{`n := 0.0 / 0.0; m := map{n: 1, 2: 3, n: 4}; for k, v in m { m[n] = 5; delete(m, 2); print(k, v) }; print(len(m))`, "done: nan 1|nan 4|4"},
		{`m := map{1: 1, 2: 2, 3: 3}; delete(m, 1); m[1] = 4; for k, v in m { print(k, v) }; print(m)`, "done: 2 2|3 3|1 4|map{2: 2, 3: 3, 1: 4}"},
		{`m := map{1: 1}; for k in m { m = map{7: 7}; print(k) }; print(m)`, "done: 1|map{7: 7}"},
		{`g := []; for k, v in map{1: 2, 3: 4} { g = append(g, func() { k += v; return k }) }; print(g[0](), g[0](), g[1]())`, "done: 3 5 7"},
	})
}

func TestSwitches(t *testing.T) {
	wantRows(t, "00", kinds, []row{
		{`switch 2 { case 1: print("a"); case 3, 2: print("b"); case 2: print("c") }`, "done: b"}, {`switch 5 { case 1: print("a"); default: print("d"); case 5: print("e") }`, "done: e"}, {`switch 6 { default: print("d"); case 5: print("e") }`, "done: d"}, {`switch 6 { case 5: print("e") }; switch 7 { }; print("x")`, "done: x"},
		{`switch { case 1 > 2: print("a"); case B(true): print("b"); case 1: print("c") }`, "done: b"}, {`switch { case 1: }`, "panic:  <bool|int>"}, {`switch { case false, nil: }`, "panic:  <bool|nil>"}, {`switch { default: print(1); case false: }`, "done: 1"},
		{`switch tick(1) { case tick(2), tick(1), tick(3): print("x"); case tick(4): }`, "done: t 1 1|t 2 2|t 3 1|x"}, {`switch nil { case 1: print("a"); case nil: print("n") }`, "done: n"}, {`switch K(1) { case 1: print("int"); case K(1): print("K") }`, "done: K"}, {`switch [] { case 1: case nil: case map{}: print("no"); default: print("d") }`, "done: d"}, {`switch [] { case 1: case []: }`, "panic:  <compare|list>"}, {`switch [] { }`, "done: "},
		{`switch 0.0 / 0.0 { case 0.0 / 0.0: print("no"); default: print("d") }`, "done: d"},
		{`switch 1 { case 1: print(1); fallthrough; case 2: print(2); fallthrough; default: print("d"); case 3: print(3) }`, "done: 1|2|d"}, {`switch 3 { default: print("d"); fallthrough; case 1: print(1) }`, "done: d|1"}, {`switch 1 { case 1: x := 1; fallthrough; case 2: x := 2; print(x) }`, "done: 2"},
		{`switch 1 { case 1: if true { break }; print("no") }; print("x")`, "done: x"}, {`for i in 2 { switch i { case 0: continue; case 1: fallthrough; default: print(i) } }`, "done: 1"},
		{`switch x := tick(K(1)).(type) { case int, text: print("a"); case P: print("p", x); case K: print("k") }`, "done: t 1 K(1)|p K(1)"}, {`switch nil.(type) { case any: print("any"); case nil: print("nil") }`, "done: nil"}, {`switch nil.(type) { case any: print("any"); default: print("d") }`, "done: d"}, {`switch 1.(type) { default: print("d"); case nil: print("n"); case any: print("any") }`, "done: any"},
		{`switch x := (&T{a: 1}).(type) { case T: print("T"); case *U, *T: x.a = 5; print(x); x = nil; print(x) }`, "done: &T{a: 5, b: nil}|nil"}, {`switch nil(*T).(type) { case nil: print("nil"); case *T: print("*T") }`, "done: *T"}, {`switch nil(list).(type) { case nil: print("nil"); case L: print("L"); case list: print("list") }`, "done: list"}, {`switch 1.(type) { case text: print("no") }`, "done: "}, {`switch 1.(type) { }`, "done: "},
		{`switch (&fault{}).(type) { case error: print("error"); case *fault: print("fault") }`, "done: error"}, {`g := []; for _, v in [1, "a"] { switch x := v.(type) { case int: g = append(g, func() { return x }); case text: g = append(g, func() { return x }) } }; print(g[0](), g[1]())`, "done: 1 a"},
	})
}

func TestPlaces(t *testing.T) {
	declared := kinds + `
func (t *T) me() { return t }
func (u *U) up(x) { u.u = x; return u }
`
	want(t, "00", declared+"var g = T{a: 1}\nvar l = [g]\nfunc main() { h := g; g.a = 5; g.b = T{}; g.b.a++ }\n", "panic:  <operand|++ nil>")
	want(t, "00", declared+"var g = T{a: 1}\nvar l = [g]\nfunc main() { h := g; g.a = 5; g.b = T{a: 3}; g.b.a++; l[0].a = 7; func() { g.b.b = 9 }(); print(g, h, l) }\n", "done: T{a: 5, b: T{a: 4, b: 9}} T{a: 1, b: nil} [T{a: 7, b: nil}]")
	wantRows(t, "00", declared, []row{
		{`x := 1; x = 2; print(x)`, "done: 2"}, {`count = 5; print(count)`, "done: 5"}, {`x := T{a: 1}; y := x; y.a = 2; print(x, y)`, "done: T{a: 1, b: nil} T{a: 2, b: nil}"},
		{`p := &T{a: 1}; q := p; q.a = 2; *p = T{b: 3}; print(*q, p == q)`, "done: T{a: nil, b: 3} true"}, {`l := [T{}, T{}]; l[1].a = 2; x := l[1]; x.a = 3; print(l)`, "done: [T{a: nil, b: nil}, T{a: 2, b: nil}]"},
		{`x := T{a: T{a: T{}}}; x.a.a.b = 7; y := x.a; y.a.b = 8; print(x.a.a.b, y.a.b)`, "done: 7 8"}, {`x := T{a: &T{b: 1}}; y := x; y.a.b = 9; print(x.a.b)`, "done: 9"}, {`x := T{a: [T{}]}; x.a[0].b = 4; print(x)`, "done: T{a: [T{a: nil, b: 4}], b: nil}"},
		{`e := E{}; e.a = 1; e.T.b = 2; e.U = &U{}; e.u = 3; e.U.u += 1; e.P = K(5); e.c = e.P.m; print(e.a, e.b, e.u, e)`, "done: 1 2 4 E{T: T{a: 1, b: 2}, U: &U{u: 4}, P: K(5), c: func}"},
		{`e := &E{}; e.a = 1; e.T.b = 2; e.U = &U{}; e.u = 3; print(*e)`, "done: E{T: T{a: 1, b: 2}, U: &U{u: 3}, P: nil, c: nil}"},
		{`m := map{1: &T{}}; m[1].a = 5; m[2] = 3; m[2] += 4; m[3] = 0; m[3]++; print(m)`, "done: map{1: &T{a: 5, b: nil}, 2: 7, 3: 1}"},
		{`x := 5; x += 2; x -= 1; x *= 6; x /= 4; x %= 5; x &= 7; x |= 8; x ^= 1; x <<= 3; x >>= 1; print(x); x++; x--; x--; print(x)`, "done: 52|51"}, {`x := K(1); x++; print(x); s := "a"; s += "b"; print(s); y := 1.5; y += 1.0; print(y == 2.5); z := 9223372036854775807; z++; print(z)`, "done: K(2)|ab|true|-9223372036854775808"},
		{`l := [1, 2]; l[0] += 5; l[1]--; print(l); p := &T{a: 1}; p.a++; (*p).a *= 10; print(p.a)`, "done: [6, 1]|20"},
		{`x := T{}; x.a = x; x.a.a = 1; print(x)`, "done: T{a: T{a: 1, b: nil}, b: nil}"},
		{`x := T{}; g := func() { x.a = 1; return 2 }; x.b = g(); print(x)`, "done: T{a: 1, b: 2}"},
		{`x := T{}; g := func() { x = 5; return 2 }; x.b = g()`, "panic:  <place|>"}, {`x := T{}; g := func() { x = U{}; return 2 }; x.b = g()`, "panic:  <place|>"}, {`x := T{a: T{}}; g := func() { x.a = nil; return 2 }; x.a.b = g()`, "panic:  <place|>"}, {`l := [T{}]; g := func() { l[0] = 1; return 2 }; l[0].a = g()`, "panic:  <place|>"}, {`l := [T{}]; g := func() { l = [1]; return 2 }; l[0].a = g(); print(l)`, "done: [1]"}, {`x := T{}; g := func() { x = T{b: 7}; return 2 }; x.a = g(); print(x)`, "done: T{a: 2, b: 7}"},
		{`x := T{a: 1}; g := func() { x = 5; return 2 }; x.a += g()`, "panic:  <place|>"}, {`x := T{a: &T{}}; g := func() { x = 5; return 2 }; y := x.a; x.a.b = g(); print(y.b, x)`, "done: 2 5"},
		{`m := map{}; g := func() { m = map{}; return 1 }; k := m; m[1] = g(); print(k, m)`, "done: map{1: 1} map{}"}, {`m := map{}; g := func() { m[2] = 1; return 1 }; m[1] = g(); print(m)`, "done: map{2: 1, 1: 1}"}, {`l := [0]; g := func() { l = append(l, 5); l[0] = 9; return 1 }; k := l; l[0] = g(); print(k, l)`, "done: [1] [9, 5]"},
		{`p := &T{}; q := &T{}; g := func() { p = q; return 1 }; k := p; p.a = g(); print(k, q)`, "done: &T{a: 1, b: nil} &T{a: nil, b: nil}"},
		{`x := 1; x = x + nil`, "panic:  <operand|+ int nil>"}, {`l := [1]; l[5] = tick(1)`, "panic:  <range|index 5 of 1>"}, {`tick([0])[tick(0)] = tick(2)`, "done: t 1 [0]|t 2 0|t 3 2"},
		{`x := "a"; x++`, "panic:  <operand|++ text>"}, {`x := nil; x--`, "panic:  <operand|-- nil>"}, {`m := map{}; m[1]++`, "panic:  <operand|++ nil>"}, {`m := map{}; m[1] += 1`, "panic:  <operand|+ nil int>"}, {`x := 1.5; x++`, "panic:  <operand|++ float>"}, {`p := &T{}; *p += 1`, "panic:  <operand|+ T int>"}, {`p := &T{}; (*p)++`, "panic:  <operand|++ T>"},
		{`p := &T{}; *p = 5`, "panic:  <conversion|int is not T>"}, {`p := &T{}; *p = nil`, "panic:  <conversion|nil is not T>"}, {`p := &T{}; *p = U{}`, "panic:  <conversion|U is not T>"}, {`p := &T{}; *p = p`, "panic:  <conversion|*T is not T>"}, {`e := E{}; e.T = 5`, "panic:  <conversion|int is not T>"}, {`e := E{}; e.U = U{}`, "panic:  <conversion|U is not *U>"}, {`e := &E{}; e.U = nil`, "panic:  <conversion|nil is not *U>"}, {`e := &E{}; e.P = 5`, "panic:  <conversion|int is not P: no m>"}, {`e := E{P: K(1)}; e.P = nil; e.P = &U{}; print(e.P)`, "done: &U{u: nil}"},
		{`*nil(*T) = tick(1)`, "panic:  <nil|pointer>"}, {`*5 = 1`, "panic:  <operand|* int>"}, {`x := nil; *x = 1`, "panic:  <operand|* nil>"}, {`e := &E{}; (*e.U).u = 1`, "panic:  <nil|pointer>"},
		{`e := &E{}; p := e.T; q := e.me(); *q = T{a: 5}; q.b = 6; print(e.T, q, q == e.me(), p); r := (&E{}).me(); print(q == r, q == nil(*T))`, "done: T{a: 5, b: 6} &T{a: 5, b: 6} true T{a: nil, b: nil}|false false"},
		{`x := T{a: 1}; f := func() { x.a++; return x }; print(f(), f(), x.a)`, "done: T{a: 2, b: nil} T{a: 3, b: nil} 3"},
	})
}

// A struct is no larger than it may be, wherever it is made or changed.
func TestSizes(t *testing.T) {
	declared := `
type T struct { a; b }
type B struct { ` + "a; b; c; d; e; f; g; h; i; j" + ` }
type E struct { .B; x; y }
func (b *B) set(v) { b.a = v }
`
	fill := `b := B{}; b = B{a: b, b: b, c: b, d: b, e: b, f: b, g: b, h: b}; b.i = T{a: T{}};` // its size is 95
	wantRows(t, "00", declared, []row{
		{fill + `print("x"); b.j = T{a: T{}, b: nil}; print("y")`, "done: x|y"},
		{fill + `b.j = T{a: T{}, b: T{}}`, "panic:  <count|101>"},
		{fill + `b.j = T{}; x := T{a: b}; print(1)`, "done: 1"},
		{fill + `b.j = T{a: T{}}; x := T{a: b}`, "panic:  <count|101>"},
	})
	wantRows(t, "00", declared, []row{
		{`x := T{}; for { x = T{a: x, b: x} }`, "panic:  <count|127>"}, {`x := T{}; for { x = T{a: x} }`, "panic:  <count|101>"}, {`x := T{}; for { x.a = x }`, "panic:  <count|101>"}, {`x := T{}; for { y := &T{a: x}; x = *y }`, "panic:  <count|101>"},
		{`p := &T{}; for { p.a = *p }`, "panic:  <count|101>"}, {`l := [T{}]; for { l[0].a = l[0] }`, "panic:  <count|101>"}, {`p := &E{}; x := T{}; for { p.set(x); x = T{a: x} }`, "panic:  <count|102>"}, {`m := map{}; x := T{}; for { m[1] = x; x = T{a: m[1]} }`, "panic:  <count|101>"},
		{`x := T{}; for i in 48 { x = T{a: x} }; print(1); y := T{a: x, b: 1}; print(2)`, "panic: 1 <count|101>"}, {`p := &E{}; x := T{}; for i in 42 { x = T{a: x} }; p.x = x; print("x"); p.set(T{})`, "panic: x <count|102>"}, {`p := &T{a: T{}}; x := T{}; for i in 48 { x = T{a: x} }; p.a = x`, "panic:  <count|101>"},
		{`x := T{}; for i in 48 { x = T{a: x} }; l := [x]; m := map{1: x}; y := x; f := func(a) { return a }; print(len(l), f(x) == y)`, "done: 1 true"},
	})
}
