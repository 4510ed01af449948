package walk_test

import (
	"testing"
)

const orders = `
type T struct { a; b }
type E struct { .T; .*U; .P; c }
type U struct { u; .*T2 }
type T2 struct { z }
type W struct { .P }
protocol P { m(0) }
func (t T) m() { return t.a }
func (t *T) n(x) { t.a = x }
type K = int
var count = 0
func tick(x) { count++; print("t", count); return x }
`

// Of two things that are wrong the one that is told first.
func TestOrderOfParts(t *testing.T) {
	wantRows(t, "Order within", orders, []row{
		{`x := nil[tick(nil)]`, "panic: t 1 <operand|[] nil nil>"}, {`x := [1]["a" + ""]`, "panic:  <operand|[] list text>"}, {`x := [1][1 / 0]`, "panic:  <divide|>"}, {`x := 5[tick("a"):tick("b")]`, "panic: t 1|t 2 <operand|[:] int>"}, {`x := [1][9:"b"]`, "panic:  <operand|[:] list text>"}, {`x := [1]["a":9]`, "panic:  <operand|[:] list text>"}, {`x := [1][9:nil:"c"]`, "panic:  <operand|[:] list nil>"}, {`x := [1][9:9:"c"]`, "panic:  <operand|[:] list text>"}, {`x := [1][9:9:1 / 0]`, "panic:  <divide|>"},
		{`x := nil + tick(1)`, "panic: t 1 <operand|+ nil int>"}, {`x := 1 / 0 + nil`, "panic:  <divide|>"}, {`x := [] == 1 / 0`, "panic:  <divide|>"}, {`x := [] == tick([])`, "panic: t 1 <compare|list>"}, {`x := 5 && tick(1)`, "panic:  <operand|&& int>"}, {`x := 5 || 1 / 0`, "panic:  <operand||| int>"}, {`x := true && 1 / 0`, "panic:  <divide|>"},
		{`x := E{T: 5, c: tick(1)}`, "panic: t 1 <conversion|int is not T>"}, {`x := E{T: 5, c: 1 / 0}`, "panic:  <divide|>"}, {`y := T{}; for i in 48 { y = T{a: y} }; x := E{c: y, P: 5}`, "panic:  <conversion|int is not P: no m>"}, {`y := T{}; for i in 48 { y = T{a: y} }; x := E{c: y, P: 5, T: 6}`, "panic:  <conversion|int is not P: no m>"}, {`y := T{}; for i in 48 { y = T{a: y} }; x := E{c: y, T: 6, P: 5}`, "panic:  <conversion|int is not T>"}, {`y := T{}; for i in 48 { y = T{a: y} }; x := E{c: y}`, "panic:  <count|105>"},
		{`x := nil(func)(tick(1), 1 / 0)`, "panic: t 1 <divide|>"}, {`x := nil.m(tick(1))`, "panic:  <nil|field m>"}, {`T{}.nobody(tick(1))`, "panic:  <missing|nobody of T>"}, {`W{}.m(tick(1))`, "panic:  <nil|method m>"}, {`T.nobody(tick(1))`, "panic:  <missing|nobody of T>"}, {`T.m(tick(1), tick(2))`, "panic: t 1|t 2 <arguments|2 for 1>"},
	})
}

func TestOrderOfPlaces(t *testing.T) {
	wantRows(t, "Order within", orders, []row{
		{`m := nil(map); m[1].f = tick(1)`, "panic:  <nil|map>"}, {`m := nil(map); m[[]] = tick(1)`, "panic:  <nil|map>"}, {`m := map{}; m[[]] = tick(1)`, "panic:  <key|list>"}, {`m := map{}; m[[]].a = 1`, "panic:  <key|list>"}, {`m := map{}; m[1].a = tick(1)`, "panic:  <nil|field a>"}, {`s := "ab"; s[0] = tick(1)`, "panic:  <operand|[] text int>"}, {`s := "ab"; s[0].f = tick(1)`, "panic:  <operand|[] text int>"}, {`s := "ab"; s[9] = 1`, "panic:  <operand|[] text int>"}, {`x := 5; x["a"] = 1`, "panic:  <operand|[] int text>"}, {`l := [1]; l["a"].x = 1`, "panic:  <operand|[] list text>"}, {`l := [T{}]; l[1].a = tick(1)`, "panic:  <range|index 1 of 1>"}, {`[T{}][0].a = 1; [1][0] = 2; map{}[1] = 2`, "done: "},
		{`(*nil(*T)).a = tick(1)`, "panic:  <nil|pointer>"}, {`x := 5; (*x).a = 1`, "panic:  <operand|* int>"}, {`nil(*T).a = tick(1)`, "panic:  <nil|field a>"}, {`x := nil; x.a = tick(1)`, "panic:  <nil|field a>"}, {`nil(*T).m = 1`, "panic:  <place|>"}, {`nil(*T).nobody = 1`, "panic:  <missing|nobody of *T>"}, {`x := nil; x.nobody = 1`, "panic:  <nil|field nobody>"}, {`T{}.nobody = 1`, "panic:  <missing|nobody of T>"}, {`T{}.a = tick(1)`, "panic:  <place|>"}, {`x := T{}; x.m = tick(1)`, "panic:  <place|>"}, {`(&T{}).n = 1`, "panic:  <place|>"}, {`x := T{}; x.n = 1`, "panic:  <missing|n of T>"}, {`x := W{}; x.m = 1`, "panic:  <place|>"}, {`x := K(1); x.m = 1`, "panic:  <missing|m of K>"},
		{`m := map{1: T{}}; m[1].a = tick(1)`, "panic:  <place|>"}, {`m := map{1: E{U: &U{}}}; m[1].u = 1`, "panic:  <place|>"}, {`m := map{1: E{}}; m[1].u = 1`, "panic:  <place|>"}, {`m := map{1: E{}}; m[1].nobody = 1`, "panic:  <missing|nobody of E>"}, {`E{U: &U{}}.u = 1`, "panic:  <place|>"}, {`m := map{1: &E{}}; m[1].a = 4; print(m[1].a)`, "done: 4"}, {`m := map{1: T{a: &T{}}}; m[1].a.b = 1`, "panic:  <place|>"}, {`T{a: &T{}}.a.b = 1`, "panic:  <place|>"}, {`x := func() { return T{a: &T{}} }; x().a.b = 1`, "panic:  <place|>"}, {`x := func() { return &T{a: &T{}} }; x().a.b = 1; print("x")`, "done: x"}, {`m := map{1: [T{}]}; m[1][0].a = 5; print(m)`, "done: map{1: [T{a: 5, b: nil}]}"}, {`m := map{1: map{2: T{}}}; m[1][2].a = 5`, "panic:  <place|>"}, {`T{a: [T{}]}.a[0].b = 6; print("x")`, "done: x"},
		{`e := E{}; e.u = tick(1)`, "panic:  <nil|field u>"}, {`e := &E{}; e.u = tick(1)`, "panic:  <nil|field u>"}, {`e := E{U: &U{}}; e.z = tick(1)`, "panic:  <nil|field z>"}, {`e := E{U: &U{T2: &T2{}}}; e.z = 3; f := e; f.z = 4; print(e.z)`, "done: 4"}, {`e := E{}; e.P.x = 1`, "panic:  <nil|field x>"}, {`e := E{P: T{}}; e.P.a = 5; print(e.P)`, "done: T{a: 5, b: nil}"}, {`e := E{P: &T{}}; e.P.a = 5; print(e.P)`, "done: &T{a: 5, b: nil}"}, {`e := &E{P: T{}}; e.P.nobody = 5`, "panic:  <missing|nobody of T>"},
		{`x := T{a: T{}}; x.m.b = 1`, "panic:  <place|>"}, {`x := &T{}; x.n.b.c = 1`, "panic:  <place|>"}, {`x := T{}; x.m[0] = 1`, "panic:  <operand|[] func int>"}, {`true.x = 1`, "panic:  <missing|x of bool>"}, {`tick.x = 1`, "panic:  <missing|x of func>"}, {`nil.x = 1`, "panic:  <nil|field x>"},
		{`T.m = tick(1)`, "panic:  <place|>"}, {`T.m.x = tick(1)`, "panic:  <place|>"}, {`(*T).m = 1`, "panic:  <place|>"}, {`(*T).n.x = 1`, "panic:  <place|>"}, {`T.nobody = 1`, "panic:  <place|>"}, {`T.m.x.y = 1`, "panic:  <place|>"}, {`T.m += 1`, "panic:  <place|>"}, {`(*T).m++`, "panic:  <place|>"}, {`int.m = 1`, "panic:  <place|>"}, {`(*T).nobody.x--`, "panic:  <place|>"}, {`T.m[0] = 1`, "panic:  <operand|[] func int>"}, {`T.nobody[0] = 1`, "panic:  <missing|nobody of T>"}, {`*T.m = 1`, "panic:  <operand|* func>"},
	})
}

func TestOrderOfLayingDown(t *testing.T) {
	big := `y := T{}; for i in 48 { y = T{a: y} }; `
	wantRows(t, "Order within", orders, []row{
		{`x := T{}; x.a = func() { x = 5; return 1 }()`, "panic:  <place|>"}, {`e := E{}; e.T = func() { e = 5; return 1 }()`, "panic:  <place|>"}, {`e := E{}; e.T = tick(5)`, "panic: t 1 <conversion|int is not T>"}, {big + `e := E{}; e.P = y; print("x")`, "panic:  <count|105>"}, {big + `e := E{}; e.U = y`, "panic:  <conversion|T is not *U>"}, {big + `e := E{}; e.c = func() { e = 5; return y }()`, "panic:  <place|>"}, {big + `p := &T{b: T{}}; *p = y; p.b = y`, "panic:  <count|197>"}, {big + `p := &E{}; *p = y`, "panic:  <conversion|T is not E>"},
		{`x := 1; x += tick("a")`, "panic: t 1 <operand|+ int text>"}, {`m := map{}; m[tick(1)] += tick(2)`, "panic: t 1|t 2 <operand|+ nil int>"}, {`m := map{1: 1}; m[1] += func() { m[1] = 10; return 5 }(); print(m)`, "done: map{1: 6}"}, {`m := map{1: 1}; m[1] += func() { delete(m, 1); m[2] = 2; return 5 }(); print(m)`, "done: map{2: 2, 1: 6}"}, {`x := 1; x += func() { x = 100; return 1 }(); print(x)`, "done: 2"}, {`l := [1]; l[0] += func() { l[0] = 7; return 1 }(); print(l)`, "done: [2]"}, {`x := T{a: 1}; x.a -= func() { x = T{a: 9, b: 8}; return 1 }(); print(x)`, "done: T{a: 0, b: 8}"}, {`m := nil(map); m[1] += tick(1)`, "panic:  <nil|map>"}, {`e := E{}; e.T += tick(1)`, "panic: t 1 <operand|+ T int>"},
		{`x := 0; x, x = 5.(int); print(x)`, "done: true"}, {`x := 0; x, x = map{1: 2}[3]; print(x)`, "done: false"}, {`x := 0; y := 0; x, y = tick(7).(int); y, x = map{1: 2}[1]; print(x, y)`, "done: t 1|true 2"},
	})
}

func TestOrderOfBuiltins(t *testing.T) {
	wantRows(t, "Order within", orders, []row{
		{`append(tick(1), tick(2))`, "panic: t 1|t 2 <operand|append int int>"}, {`append()`, "panic:  <arguments|0 for 1>"}, {`len(tick(1), 1 / 0)`, "panic: t 1 <divide|>"}, {`len(1, 2)`, "panic:  <arguments|2 for 1>"}, {`copy(1)`, "panic:  <arguments|1 for 2>"}, {`copy(1, 2)`, "panic:  <operand|copy int int>"}, {`copy([], &T{})`, "panic:  <operand|copy list *T>"}, {`delete(1, [])`, "panic:  <operand|delete int list>"}, {`delete(map{}, [], 1)`, "panic:  <arguments|3 for 2>"}, {`make("a", 1)`, "panic:  <arguments|2 for 1>"}, {`panic(nil, 1)`, "panic:  <arguments|2 for 1>"}, {`recover(1 / 0)`, "panic:  <divide|>"}, {`typeof(1, 2)`, "panic:  <arguments|2 for 1>"}, {`show()`, "panic:  <arguments|0 for 1>"}, {`print(1 / 0)`, "panic:  <divide|>"},
	})
}

func TestOrderOfTypeSwitches(t *testing.T) {
	wantRows(t, "Order within", orders, []row{
		{`switch (T{}).(type) { case int, P, T: print("a"); case T: print("b") }`, "done: a"}, {`switch (T{}).(type) { case T, P: print("a"); default: print("b") }`, "done: a"}, {`switch (T{}).(type) { default: print("d"); case any: print("a"); case T: print("t") }`, "done: a"}, {`switch K(1).(type) { case int: print("int"); case P: print("P"); case nil: print("nil"); case K: print("K") }`, "done: K"},
	})
}
