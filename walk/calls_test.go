package walk_test

import "testing"

func TestCalls(t *testing.T) {
	wantRows(t, "00", kinds, []row{
		{`print(f(1, 2), f(f(3, 4), 5))`, "done: 1 3"}, {`f(1)`, "panic:  <arguments|1 for 2>"}, {`f()`, "panic:  <arguments|0 for 2>"}, {`f(1, 2, 3)`, "panic:  <arguments|3 for 2>"}, {`func() { }(1)`, "panic:  <arguments|1 for 0>"},
		{`(nil)()`, "panic:  <nil|call>"}, {`nil(func)(tick(1))`, "panic: t 1 1 <nil|call>"}, {`nil(F)()`, "panic:  <nil|call>"}, {`5()`, "panic:  <operand|() int>"}, {`x := T{}; x(tick(1))`, "panic: t 1 1 <operand|() T>"}, {`x := &T{}; x()`, "panic:  <operand|() *T>"}, {`"a"()`, "panic:  <operand|() text>"},
		{`tick(f)(tick(1), tick(2))`, "done: t 1 func|t 2 1|t 3 2"}, {`g := tick; print(g(g(1)))`, "done: t 1 1|t 2 1|1"}, {`x := T{a: f}; print(x.a(7, 8))`, "done: 7"}, {`l := [f]; print(l[0](5, 6)); m := map{"g": f}; print(m["g"](7, 8))`, "done: 5|7"},
		{`x := T{a: 1}; g := func(y) { y.a = 2; return y }; print(g(x), x)`, "done: T{a: 2, b: nil} T{a: 1, b: nil}"}, {`l := [1]; func(k) { k[0] = 2; k = [3] }(l); print(l)`, "done: [2]"},
		{`fib := nil; fib = func(n) { if n < 2 { return n }; return fib(n - 1) + fib(n - 2) }; print(fib(12))`, "done: 144"}, {`g := func(a) { return func() { a++; return a } }; x := g(1); y := g(5); print(x(), x(), y())`, "done: 2 3 6"},
		{`g := func() { print(1) }; print(g())`, "done: 1|nil"}, {`g := F(f); print(g(1, 2))`, "done: 1"},
	})
	want(t, "00", "func main() { a(1) }\nfunc a(n) { if n < 3 { b(n + 1) }; print(\"a\", n) }\nfunc b(n) { a(n); print(\"b\", n) }", "done: a 3|b 3|a 2|b 2|a 1")
}

const guards = `
func caught() { r := recover(); switch e := r.(type) { case error: print("fault", e.Error()); default: print("caught", r) } }
func again() { r := recover(); print("again", r); panic(r) }
func over() { recover() }
func deep() { over() }
`

func TestPanics(t *testing.T) {
	wantRows(t, "00", guards, []row{
		{`panic(1)`, "panic:  {1}"}, {`panic(nil)`, "panic:  <panic|>"}, {`panic("a"); print("no")`, `panic:  {"a"}`}, {`print(panic(1))`, "panic:  {1}"},
		{`defer caught(); panic(1)`, "done: caught 1"}, {`defer caught(); panic(nil)`, "done: fault panic"}, {`defer caught(); print([][0])`, "done: fault range index 0 of 0"}, {`defer print("d"); panic(1)`, "panic: d {1}"}, {`defer print(1); defer print(2); print(3)`, "done: 3|2|1"},
		{`for i in 3 { defer print(i) }; print("end")`, "done: end|2|1|0"}, {`x := 1; defer print(x); x = 2`, "done: 1"}, {`x := 1; defer func() { print(x) }(); x = 2`, "done: 2"},
		{`g := func() { defer over(); panic(1); return 5 }; print(g())`, "done: nil"}, {`g := func() { defer over(); return 5 }; print(g())`, "done: 5"}, {`g := func() { defer deep(); panic(1) }; g()`, "panic:  {1}"}, {`g := func() { defer func() { over() }(); panic(1) }; g()`, "panic:  {1}"}, {`g := func() { defer func() { func() { recover() }() }(); panic(1) }; g()`, "panic:  {1}"}, {`defer recover(); panic(1)`, "panic:  {1}"},
		{`print(recover()); over(); func() { print(recover()) }()`, "done: nil|nil"}, {`defer func() { print(recover(), recover()) }(); panic(1)`, "done: 1 nil"}, {`defer caught(); defer caught(); panic(1)`, "done: caught 1|caught nil"},
		{`defer caught(); defer func() { panic(2) }(); panic(1)`, "done: caught 2"}, {`defer caught(); defer again(); panic(1)`, "done: again 1|caught 1"}, {`g := func() { defer func() { panic(2) }(); return 5 }; h := func() { defer caught(); return g() }; print(h())`, "done: caught 2|nil"}, {`g := func() { defer over(); defer func() { panic(2) }(); return 5 }; print(g())`, "done: nil"},
		{`g := func() { defer func() { recover(); panic(3) }(); panic(1) }; defer caught(); g()`, "done: caught 3"}, {`g := func() { defer print("last"); defer over(); defer print("first"); panic(1) }; print(g())`, "done: first|last|nil"},
		{`g := func() { defer func() { defer over(); panic(2) }(); panic(1) }; g()`, "panic:  {1}"}, {`g := func() { defer func() { defer caught(); panic(2) }(); panic(1) }; h := func() { defer caught(); g() }; h()`, "done: caught 2|caught 1"}, {`g := func() { defer func() { defer caught() }(); panic(1) }; g()`, "panic: caught nil {1}"},
		{`defer func() { defer func() { print(recover()) }(); print(recover()) }(); panic(1)`, "done: 1|nil"}, {`defer panic(1); defer caught(); panic(2)`, "panic: caught 2 {1}"}, {`defer caught(); defer panic(3); return 4`, "done: caught 3"},
		{`g := func() { defer caught(); for { panic("loop") } }; g(); g()`, "done: caught loop|caught loop"}, {`g := func(n) { defer caught(); if n > 0 { panic(n) } }; for i in 3 { g(i) }`, "done: caught nil|caught 1|caught 2"},
	})
	taking := guards + "type T struct { }\nfunc (t T) take() { print(\"took\", recover()) }\ntype K = int\nfunc (k K) take() { print(\"K\", recover()) }\nprotocol P { take(0) }\ntype W struct { .P }\n"
	wantRows(t, "00", taking, []row{
		{`defer T{}.take(); panic(1)`, "done: took 1"}, {`f := T{}.take; defer f(); panic(1)`, "done: took 1"}, {`defer T.take(T{}); panic(1)`, "done: took 1"}, {`f := T.take; defer f(T{}); panic(1)`, "done: took 1"}, {`defer W{P: K(1)}.take(); panic(1)`, "done: K 1"}, {`defer W.take(W{P: W{P: T{}}}); panic(1)`, "done: took 1"}, {`defer func() { T{}.take() }(); panic(1)`, "panic: took nil {1}"}, {`T{}.take(); T.take(T{})`, "done: took nil|took nil"},
		{`defer func() { defer recover() }(); panic(1)`, "panic:  {1}"}, {`defer func() { defer recover(); recover() }(); panic(1)`, "done: "}, {`defer func() { defer print(recover()) }(); panic(1)`, "done: 1"}, {`defer func() { defer caught(recover()) }(); panic(1)`, "panic:  <arguments|1 for 0>"},
	})
	want(t, "00", guards+"func g(n) { defer print(\"u\", n); if n == 0 { panic(\"deep\") }; g(n - 1) }\nfunc main() { defer caught(); g(2) }", "done: u 0|u 1|u 2|caught deep")
	want(t, "00", guards+"var x = panic(7)\nfunc main() { print(1) }", "panic:  {7}")
	want(t, "00", guards+"var x = f()\nfunc f() { defer caught(); panic(7) }\nfunc main() { print(x) }", "done: caught 7|nil")
	want(t, "00", "var x = recover()\nfunc main() { print(x, recover()) }", "done: nil nil")
}

func TestDefers(t *testing.T) {
	wantRows(t, "00", guards+kinds, []row{
		{`defer 5(); print("no")`, "panic:  <operand|() int>"}, {`defer T{}(tick(1))`, "panic: t 1 1 <operand|() T>"}, {`defer nil(func)(); print(1)`, "panic: 1 <nil|call>"}, {`x := nil; defer x(tick(1)); print(2)`, "panic: t 1 1|2 <nil|call>"}, {`defer f(1); print(1)`, "panic: 1 <arguments|1 for 2>"},
		{`defer caught(); defer nil(func)(); defer print(1); print(2)`, "done: 2|1|fault nil call"}, {`defer caught(); defer f(); panic(1)`, "done: fault arguments 0 for 2"}, {`defer len(1); print(1)`, "panic: 1 <operand|len int>"}, {`defer len(); print(1)`, "panic: 1 <arguments|0 for 1>"}, {`defer recover(1); print(1)`, "panic: 1 <arguments|1 for 0>"}, {`defer make(-1)`, "panic:  <count|-1>"}, {`m := map{1: 2}; defer print(m); defer delete(m, 1)`, "done: map{}"},
		{`defer tick(tick(1)); print("x")`, "done: t 1 1|x|t 2 1"}, {`x := K(5); defer print(x.m()); defer x.m(); x = K(6); print("y")`, "done: y|K(5)"}, {`u := U{u: 1}; defer func(g) { print(g()) }(u.m); u.u = 2; print(u.m())`, "done: 2|1"},
		{`p := &U{u: 1}; defer func() { print(p.u) }(); p.u = 2`, "done: 2"}, {`defer nil(*U).m(); print("no")`, "panic:  <nil|method m>"}, {`defer K.m(1); print("x")`, "panic: x <conversion|int is not K>"}, {`defer K.m(); print("x")`, "panic: x <arguments|0 for 1>"}, {`defer K.nobody(1); print("x")`, "panic:  <missing|nobody of K>"}, {`defer nil(*fault).Error(); print("x")`, "panic: x <nil|field word>"},
		{`g := func() { for i in 3 { defer print(i); if i == 1 { return i } } }; print(g())`, "done: 1|0|1"}, {`func() { defer func() { print("in") }() }(); print("out")`, "done: in|out"}, {`g := func() { x := 1; defer func() { x = 2 }(); return x }; print(g())`, "done: 1"},
	})
}

func TestBuiltins(t *testing.T) {
	wantRows(t, "00", kinds, []row{
		{`print(len("abc"), len([1]), len(map{1: 2}), len(""), len(nil(list)), len(nil(map)), len(S("ab")), len(L([1, 2])), len(nil(M)), cap([1, 2]), cap(nil(L)), cap([1, 2, 3][1:2]))`, "done: 3 1 1 0 0 0 2 2 0 2 0 2"},
		{`len(1)`, "panic:  <operand|len int>"}, {`len(nil)`, "panic:  <operand|len nil>"}, {`len(T{})`, "panic:  <operand|len T>"}, {`len(f)`, "panic:  <operand|len func>"}, {`cap("a")`, "panic:  <operand|cap text>"}, {`cap(map{})`, "panic:  <operand|cap map>"}, {`len()`, "panic:  <arguments|0 for 1>"}, {`cap([], [])`, "panic:  <arguments|2 for 1>"}, {`len(tick(1), tick(2))`, "panic: t 1 1|t 2 2 <arguments|2 for 1>"},
		{`l := [1]; m := append(l, 2, 3); m[0] = 9; print(l, m, cap(m), append(m)); k := append(l, 5); print(k, cap(k), cap(append(k, 6)), cap(append(append(k, 6), 7)))`, "done: [1] [9, 2, 3] 3 [9, 2, 3]|[1, 5] 2 4 4"},
		{`print(append(nil(L), 1), append(L([1]), 2), append([]), append(nil(list)), append(nil(list), nil))`, "done: L([1]) L([1, 2]) [] nil(list) [nil]"}, {`a := make(3)[:1]; b := append(a, 1); c := append(a, 2); print(b, c, a, a[:3])`, "done: [nil, 2] [nil, 2] [nil] [nil, 2, nil]"}, {`l := append(make(2)[:1], 5, 6, 7); print(cap(l), len(l)); l = append([1, 2, 3, 4], 5); print(cap(l), l[:8])`, "done: 4 4|8 [1, 2, 3, 4, 5, nil, nil, nil]"},
		{`x := T{a: 1}; l := append([], x); x.a = 2; print(l)`, "done: [T{a: 1, b: nil}]"}, {`append()`, "panic:  <arguments|0 for 1>"}, {`append(1)`, "panic:  <operand|append int>"}, {`append(nil, 1, "a", &T{})`, "panic:  <operand|append nil int text *T>"}, {`append(map{}, [])`, "panic:  <operand|append map list>"},
		{`l := [1, 2, 3]; print(copy(l, [7, 8]), l, copy(l[1:], l), l, copy(l, l[1:]), l, copy([], l), copy(nil(list), nil(L)), copy(L(l), [5]), l)`, "done: 2 [5, 8, 8] 2 [5, 8, 8] 2 [5, 8, 8] 0 0 1 [5, 8, 8]"},
		{`l := [1, 2, 3, 4]; copy(l[1:], l); print(l); l = [1, 2, 3, 4]; copy(l, l[1:]); print(l)`, "done: [1, 1, 2, 3]|[2, 3, 4, 4]"}, {`copy([], 1)`, "panic:  <operand|copy list int>"}, {`copy("a", [])`, "panic:  <operand|copy text list>"}, {`copy([])`, "panic:  <arguments|1 for 2>"}, {`copy(nil, nil)`, "panic:  <operand|copy nil nil>"},
		{`m := map{1: 2, 3: 4}; print(delete(m, 1), m, delete(m, 9), delete(nil(map), 1), m)`, "done: nil map{3: 4} nil nil map{3: 4}"}, {`delete([], 1)`, "panic:  <operand|delete list int>"}, {`delete(nil, [])`, "panic:  <operand|delete nil list>"}, {`delete(map{})`, "panic:  <arguments|1 for 2>"}, {`delete(map{}, [])`, "panic:  <key|list>"},
		{`print(make(2), make(0), len(make(65536)), make(K(1)), cap(make(3)))`, "done: [nil, nil] [] 65536 [nil] 3"}, {`make(-1)`, "panic:  <count|-1>"}, {`make(65537)`, "panic:  <count|65537>"}, {`make("a")`, "panic:  <operand|make text>"}, {`make(1.0)`, "panic:  <operand|make float>"}, {`make()`, "panic:  <arguments|0 for 1>"}, {`make(nil)`, "panic:  <operand|make nil>"},
		{`print(); print(nil); print("a", "b"); print(print(1))`, "done: |nil|a b|1|nil"}, {`print(tick(1), tick(2))`, "done: t 1 1|t 2 2|1 2"},
		{`print(typeof(1), typeof(nil), typeof(&T{}), typeof(T{}), typeof(nil(L)), typeof(f), typeof(K(1)), typeof("a"), typeof(1.5), typeof(true), typeof([]), typeof(map{}), typeof(nil(*fault)))`, "done: int nil *T T L func K text float bool list map *fault"}, {`typeof()`, "panic:  <arguments|0 for 1>"}, {`print(typeof(typeof(1)))`, "done: text"},
		{`print(show("a"), show(nil), show([1, "b"]), len(show("a")), show(show("a")))`, `done: "a" nil [1, "b"] 3 "\"a\""`}, {`show(1, 2)`, "panic:  <arguments|2 for 1>"}, {`panic()`, "panic:  <arguments|0 for 1>"}, {`panic(1, 2)`, "panic:  <arguments|2 for 1>"}, {`recover(1)`, "panic:  <arguments|1 for 0>"},
	})
}

func TestTexts(t *testing.T) {
	double := `s := "a"; for i in 16 { s += s }; `
	wantRows(t, "00", "type S = text", []row{
		{double + `print(len(s)); s += ""; print(len(s)); s += "b"`, "panic: 65536|65536 <count|65537>"}, {double + `s = s[1:] + "b"; print(len(s))`, "done: 65536"}, {double + `x := S(s) + S(s)`, "panic:  <count|131072>"}, {double + `print(len(show(s[:65534]))); x := show(s[:65535])`, "panic: 65536 <count|65537>"},
		{double + `e := &fault{word: s}; print(len(e.Error())); e.more = ""; print(len(e.Error())); e.more = 1; e.Error()`, "panic: 65536|65536 <count|65537>"}, {double + `e := &fault{word: s[2:], more: 1}; print(len(e.Error())); e.word = s[1:]; e.Error()`, "panic: 65536 <count|65537>"}, {double + `e := &fault{word: [s]}; e.Error()`, "panic:  <count|65537>"}, {double + `e := &fault{more: [s]}; e.Error()`, "panic:  <count|65537>"},
		{double + `n := 0; for i, c in s { n = i }; print(n)`, "spent: "}, {double + `n := 0; for i, c in s[30000:] { n = i }; print(n, s[65535])`, "done: 35535 97"},
	})
}
