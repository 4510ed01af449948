package walk_test

import (
	"strings"
	"testing"
)

const methods = `
protocol P { get(0) }
protocol Q { P; set(1) }
type A struct { x }
func (a A) get() { return a.x }
func (a *A) set(v) { a.x = v; return a }
func (a *A) isNone() { return a == nil(*A) }
type B struct { .A; b }
type C struct { .*A; c }
type D struct { .B; .*C2; d }
type C2 struct { .*A2; y }
type A2 struct { z }
func (a *A2) deep() { return a }
func (a A2) low() { return a.z }
type H struct { .D; get }
type W struct { .P }
type V struct { .*W; v }
type K = int
func (k K) get() { return k + K(1) }
type L = list
func (l L) set(v) { l[0] = v; return l }
func (l L) get() { return len(l) }
type N = func
func (n N) get() { return n() }
`

func TestMethods(t *testing.T) {
	wantRows(t, "00", methods, []row{
		{`a := A{x: 1}; p := &A{x: 2}; print(a.get(), p.get(), p.set(5), p.x, p.isNone(), nil(*A).isNone())`, "done: 1 2 &A{x: 5} 5 false true"}, {`a := A{}; a.set(1)`, "panic:  <missing|set of A>"}, {`nil(*A).get()`, "panic:  <nil|method get>"}, {`nil(*A).set(1)`, "panic:  <nil|field x>"}, {`x := nil; x.get()`, "panic:  <nil|field get>"}, {`5.get()`, "panic:  <missing|get of int>"}, {`nil(*A).nobody()`, "panic:  <missing|nobody of *A>"}, {`(&A{}).get(1)`, "panic:  <arguments|1 for 0>"}, {`(&A{}).set()`, "panic:  <arguments|0 for 1>"}, {`(&A{x: 5}).x()`, "panic:  <operand|() int>"}, {`A{}.x()`, "panic:  <nil|call>"},
		{`b := B{A: A{x: 1}, b: 2}; p := &B{}; p.set(7); print(b.get(), b.x, b.A.x, p.x, p.get(), p.isNone())`, "done: 1 1 1 7 7 false"}, {`b := B{}; b.set(1)`, "panic:  <missing|set of B>"}, {`nil(*B).get()`, "panic:  <nil|method get>"}, {`nil(*B).set(1)`, "panic:  <nil|method set>"}, {`nil(*B).isNone()`, "panic:  <nil|method isNone>"}, {`print(nil(*B).x)`, "panic:  <nil|field x>"}, {`print(nil(*B).A)`, "panic:  <nil|field A>"},
		{`c := C{A: &A{x: 1}}; d := c; d.set(9); print(c.get(), c.x, d.c, c.isNone(), C{}.isNone())`, "done: 9 9 nil false true"}, {`C{}.get()`, "panic:  <nil|method get>"}, {`print(C{}.x)`, "panic:  <nil|field x>"}, {`C{}.set(1)`, "panic:  <nil|field x>"}, {`nil(*C).isNone()`, "panic:  <nil|method isNone>"},
		{`d := &D{}; d.set(3); print(d.x, d.B.A.x, d.get(), d.b)`, "done: 3 3 3 nil"}, {`d := D{C2: &C2{A2: &A2{z: 4}}}; print(d.z, d.low(), d.deep(), d.y)`, "done: 4 4 &A2{z: 4} nil"}, {`d := D{C2: &C2{}}; print(d.deep())`, "done: nil(*A2)"}, {`D{C2: &C2{}}.low()`, "panic:  <nil|method low>"}, {`D{}.deep()`, "panic:  <nil|method deep>"}, {`print(D{}.y)`, "panic:  <nil|field y>"}, {`print(D{}.z)`, "panic:  <nil|field z>"}, {`D{}.y = 1`, "panic:  <place|>"}, {`d := D{}; d.y = 1`, "panic:  <nil|field y>"}, {`d := D{}; d.z = 1`, "panic:  <nil|field z>"}, {`D{}.set(1)`, "panic:  <missing|set of D>"},
		{`h := H{get: 5}; print(h.get, h.D.get(), h.x)`, "done: 5 nil nil"}, {`H{get: 5}.get()`, "panic:  <operand|() int>"},
		{`w := W{P: K(4)}; print(w.get(), w.P, w.P.get()); w.P = &A{x: 6}; print(w.get()); v := V{W: &W{P: w}}; print(v.get())`, "done: K(5) K(4) K(5)|6|6"}, {`W{}.get()`, "panic:  <nil|method get>"}, {`V{}.get()`, "panic:  <nil|method get>"}, {`W{P: nil(*A)}.get()`, "panic:  <nil|method get>"}, {`W{P: C{}}.get()`, "panic:  <nil|method get>"}, {`nil(*W).get()`, "panic:  <nil|method get>"}, {`W{P: K(1)}.get(5)`, "panic:  <arguments|1 for 0>"}, {`W{P: A{}}.set(1)`, "panic:  <missing|set of W>"},
		{`k := K(3); print(k.get(), L([7]).set(8), L([1, 2]).get(), N(func() { return 9 }).get(), N(nil(func)))`, "done: K(4) L([8]) 2 9 nil(N)"},
		{`a := A{x: 1}; g := a.get; a.x = 2; print(g(), a.get(), g)`, "done: 1 2 func"}, {`p := &A{x: 1}; g := p.get; h := p.set; p.x = 2; h(5); print(g(), p.x)`, "done: 1 5"}, {`p := &B{}; h := p.set; p2 := p; h(5); print(p2.x, p2.A); *p = B{}; h(6); print(p.x)`, "done: 5 A{x: 5}|6"}, {`w := W{P: K(1)}; g := w.get; w.P = K(7); print(g(), w.get())`, "done: K(2) K(8)"}, {`c := C{A: &A{x: 1}}; g := c.get; h := c.set; c.A = &A{x: 2}; h(3); print(g(), c.x)`, "done: 1 2"},
		{`a := A{x: 1}; b := B{A: a}; print(B.get(b), func(f, y) { return f() + y }(a.get, func() { a.x = 5; return 10 }()), a.get())`, "done: 1 11 5"}, {`a := C{A: &A{x: 1}}; p := a.A; a.set(func() { a = C{A: &A{x: 7}}; return 3 }()); print(p.x, a.x)`, "done: 3 7"}, {`w := W{P: K(1)}; g := func(z) { return z }; print(g(w.get()), [w.get(), func() { w.P = K(5); return 0 }(), w.get()])`, "done: K(2) [K(2), 0, K(6)]"},
		{`g := W{}.get`, "panic:  <nil|method get>"}, {`g := nil(*A).get`, "panic:  <nil|method get>"}, {`g := nil(*A).set; print(1); g(1)`, "panic: 1 <nil|field x>"}, {`g := A{}.nobody`, "panic:  <missing|nobody of A>"}, {`g := (&A{}).get; g(1)`, "panic:  <arguments|1 for 0>"},
	})
	mixed := "type A struct { a }\nfunc (a *A) set(v) { a.a = v; return a }\ntype C struct { y; .A }\ntype D struct { .*C; d }\ntype E struct { x; .D }\n"
	wantRows(t, "00", mixed, []row{
		{`e := E{D: D{C: &C{}}}; f := e; p := e.set(5); print(f.a, f.C, p == f.set(6), f.D.C.A, p)`, "done: 5 &C{y: nil, A: A{a: 6}} true A{a: 6} &A{a: 6}"}, {`E{}.set(1)`, "panic:  <nil|method set>"}, {`(&E{}).set(1)`, "panic:  <nil|method set>"}, {`e := E{D: D{C: &C{}}}; g := e.set; e.D.C = &C{}; g(3); print(e.a)`, "done: nil"}, {`e := E{D: D{C: &C{}}}; e.a = 4; e.A.a += 1; e.y = 2; print(e)`, "done: E{x: nil, D: D{C: &C{y: 2, A: A{a: 5}}, d: nil}}"},
	})
	both := "type X struct { x; m }\ntype Y struct { x }\nfunc (y Y) n() { }\ntype Z struct { .X; .Y; .R }\nprotocol R { n(0); m(1) }\n"
	wantRows(t, "00", both, []row{
		{`print(Z{}.x)`, "panic:  <missing|x of Z twice>"}, {`Z{}.n()`, "panic:  <missing|n of Z twice>"}, {`(&Z{}).m = 1`, "panic:  <missing|m of *Z twice>"}, {`print(Z.n)`, "panic:  <missing|n of Z twice>"}, {`print((*Z).m)`, "panic:  <missing|m of *Z twice>"}, {`z := Z{}; z.x++`, "panic:  <missing|x of Z twice>"}, {`z := Z{}; z.X.x = 1; z.Y.x = 2; print(z.X, z.Y)`, "done: X{x: 1, m: nil} Y{x: 2}"}, {`print(Z{}.(R))`, "panic:  <conversion|Z is not R: no m>"},
	})
}

func TestMethodExpressions(t *testing.T) {
	wantRows(t, "00", methods, []row{
		{`g := A.get; h := (*A).set; k := (*A).get; p := &A{x: 1}; print(g(*p), h(p, 4), k(p), g)`, "done: 1 &A{x: 4} 4 func"}, {`print(B.get(B{A: A{x: 3}}), (*B).set(&B{}, 6), D.deep(D{C2: &C2{}}), C.isNone(C{}), K.get(K(1)), L.get(L([])))`, "done: 3 &A{x: 6} nil(*A2) true K(2) 0"},
		{`g := A.set`, "panic:  <missing|set of A>"}, {`g := A.x`, "panic:  <missing|x of A>"}, {`g := (*A).x`, "panic:  <missing|x of *A>"}, {`g := A.nobody`, "panic:  <missing|nobody of A>"}, {`g := int.get`, "panic:  <missing|get of int>"}, {`g := H.get`, "panic:  <missing|get of H>"}, {`g := fault.Error`, "panic:  <missing|Error of fault>"}, {`g := (*B).b`, "panic:  <missing|b of *B>"},
		{`A.get()`, "panic:  <arguments|0 for 1>"}, {`A.get(A{}, 1)`, "panic:  <arguments|2 for 1>"}, {`(*A).set(&A{})`, "panic:  <arguments|1 for 2>"}, {`A.get(1)`, "panic:  <conversion|int is not A>"}, {`A.get(&A{})`, "panic:  <conversion|*A is not A>"}, {`(*A).get(A{})`, "panic:  <conversion|A is not *A>"}, {`A.get(nil)`, "panic:  <conversion|nil is not A>"}, {`A.get(B{})`, "panic:  <conversion|B is not A>"}, {`(*A).set(5, 6)`, "panic:  <conversion|int is not *A>"}, {`A.get(1, 2)`, "panic:  <arguments|2 for 1>"},
		{`(*A).get(nil(*A))`, "panic:  <nil|method get>"}, {`print((*A).isNone(nil(*A)))`, "done: true"}, {`C.get(C{})`, "panic:  <nil|method get>"}, {`(*B).set(nil(*B), 1)`, "panic:  <nil|method set>"}, {`W.get(W{})`, "panic:  <nil|method get>"}, {`print(W.get(W{P: K(1)}), V.get(V{W: &W{P: A{x: 2}}}), (*W).get(&W{P: W{P: K(3)}}))`, "done: K(2) 2 K(4)"}, {`W.get(5)`, "panic:  <conversion|int is not W>"}, {`W.get()`, "panic:  <arguments|0 for 1>"},
		{`print((*fault).Error(&fault{word: 1, more: 2}))`, "done: 1 2"}, {`(*fault).Error(nil(*fault))`, "panic:  <nil|field word>"}, {`(*fault).Error(fault{})`, "panic:  <conversion|fault is not *fault>"},
	})
}

// One protocol may be gone through behind another, 60 times.
func TestProtocolsWithinOneAnother(t *testing.T) {
	wrap := func(first, made, n string) string {
		return "x := " + first + "; for i in " + n + " { x = " + made + " }; "
	}
	for _, made := range []struct{ made, name string }{{"W{P: x}", "W"}, {"&W{P: x}", "*W"}, {"V{W: &W{P: x}}", "V"}} {
		must := "panic:  <missing|get of " + made.name + ">"
		wantRows(t, "Order within", methods, []row{
			{wrap("K(1)", made.made, "60") + "print(x.get())", "done: K(2)"},
			{wrap("K(1)", made.made, "61") + "x.get()", must}, {wrap("K(1)", made.made, "61") + "g := x.get", must},
			{wrap("W{}", made.made, "59") + "x.get()", "panic:  <nil|method get>"}, {wrap("W{}", made.made, "60") + "x.get()", must},
			{wrap("nil(*W)", made.made, "59") + "x.get()", "panic:  <nil|method get>"}, {wrap("nil(*W)", made.made, "60") + "x.get()", must}, {wrap("V{}", made.made, "60") + "x.get()", must}, {wrap("V{}", made.made, "59") + "x.get()", "panic:  <nil|method get>"},
			{wrap("nil(*A)", made.made, "60") + "x.get()", "panic:  <nil|method get>"},
		})
	}
	wantRows(t, "Order within", methods, []row{
		{`w := &W{}; w.P = w; y := V{W: w}; y.get()`, "panic:  <missing|get of V>"}, {`a := &W{}; b := &W{P: a}; a.P = b; g := (*W).get; print(1); g(b)`, "panic: 1 <missing|get of *W>"}, {`w := &W{}; w.P = w; g := W.get; g(*w)`, "panic:  <missing|get of W>"}, {`w := &W{}; w.P = w; x, ok := w.(P); print(ok, x == w)`, "done: true true"}, {`w := &W{}; w.P = w; defer w.get(); print("no")`, "panic:  <missing|get of *W>"}, {`w := &W{}; w.P = w; defer (*W).get(w); print("x")`, "panic: x <missing|get of *W>"},
	})
}

func TestFaultsOwnMethod(t *testing.T) {
	declared := "type E struct { .fault; e }\ntype F struct { .*fault }\ntype G struct { .error }\ntype K = text\n"
	wantRows(t, "00", declared, []row{
		{`print((&fault{word: "a", more: "b"}).Error(), (&fault{word: "a"}).Error(), (&fault{word: "a", more: ""}).Error(), (&fault{}).Error(), (&fault{more: 1}).Error())`, "done: a b a a nil nil 1"}, {`print((&fault{word: ["x"], more: K("y")}).Error(), (&fault{word: "", more: K("")}).Error())`, `done: ["x"] K("y")  K("")`},
		{`e := &E{fault: fault{word: 1, more: 2}}; print(e.Error(), e.word, e.(error) == e); e.word = 7; g := e.Error; e.more = nil; print(g())`, "done: 1 2 1 true|7"}, {`E{}.Error()`, "panic:  <missing|Error of E>"}, {`print(F{fault: &fault{word: 3}}.Error(), F{fault: &fault{}}.(error) == nil)`, "done: 3 false"}, {`F{}.Error()`, "panic:  <nil|field word>"}, {`g := F{}.Error; print(1); g()`, "panic: 1 <nil|field word>"}, {`nil(*E).Error()`, "panic:  <nil|method Error>"}, {`nil(*fault).Error(1)`, "panic:  <arguments|1 for 0>"}, {`print(G{error: &fault{word: 5}}.Error())`, "done: 5"}, {`G{}.Error()`, "panic:  <nil|method Error>"}, {`G{error: nil(*fault)}.Error()`, "panic:  <nil|field word>"},
		{`fault{}.Error()`, "panic:  <missing|Error of fault>"}, {`defer func() { f := recover().(*fault); print(f.word, f.more, f.Error(), typeof(f), f == recover()) }(); print(1 / 0)`, "done: divide  divide *fault false"}, {`defer func() { f := recover().(error); print(f.Error()) }(); nil.x.y = 1`, "done: nil field x"},
	})
}

// A method that nobody has, and a type that nobody has a method of.
func TestNothingThere(t *testing.T) {
	for _, v := range []string{"1", `"a"`, "[]", "map{}", "main", "true", "1.5", "A{}", "&A{}", "nil(*A)", "K(1)"} {
		name := map[string]string{"1": "int", `"a"`: "text", "[]": "list", "map{}": "map", "main": "func", "true": "bool", "1.5": "float", "A{}": "A", "&A{}": "*A", "nil(*A)": "*A", "K(1)": "K"}[v]
		for _, s := range []string{"print((V).none)", "(V).none()", "(V).none = 1", "(V).none++", "defer (V).none()", "x := V; x.none = 1", "x := [V]; x[0].none = 1", "x := map{1: V}; x[1].none = 1"} {
			wantMain(t, "00", methods, strings.ReplaceAll(s, "V", v), "panic:  <missing|none of "+name+">")
		}
	}
}
