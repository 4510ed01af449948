package compile_test

import "testing"

const calling = `
type T struct { x }
type U struct { .*T; .M; y }
type K = int
protocol M { get(0); put(1) }
func (t T) get() { return t.x }
func (t *T) put(v) { t.x = v; return t }
func (k K) get() { return int(k) }
func (k K) put(v) { return k + v }
func f(a) { print("f", a); return a }
func two(a, b) { return [a, b] }
func caught() { print("caught", recover()) }
`

func TestCalls(t *testing.T) {
	t.Parallel()
	wantRows(t, calling, []row{
		{"print(f(f(1)), two(f(2), f(3)))", "done: f 1|f 1|f 2|f 3|1 [2, 3]"},
		{"f(1, 2)", "panic: <arguments|2 for 1>"},
		{"f(f(1), f(2))", "panic: f 1|f 2<arguments|2 for 1>"},
		{"1(f(2))", "panic: f 2<operand|() int>"},
		{"nil(func)(f(2))", "panic: f 2<nil|call>"},
		{"print([f][0](1), func(a) { return a + 1 }(2), two(1, 2)[1])", "done: f 1|1 3 2"},
		{"t := &T{x: 1}; g := t.get; h := t.put; t.x = 2; h(3); print(g(), t.get(), t.x, h(4).x)", "done: 1 3 3 4"},
		{"t := T{x: 1}; g := t.get; t.x = 2; print(g(), t.get()); t.put(1)", "panic: 1 2<missing|put of T>"},
		{"print(T.get(T{x: 5}), (*T).put(&T{}, 6).x, (*T).get(&T{x: 7}), K.put(K(1), K(2)))", "done: 5 6 7 K(3)"},
		{"T.get(1)", "panic: <conversion|int is not T>"},
		{"T.get()", "panic: <arguments|0 for 1>"},
		{"T.put(T{}, 1)", "panic: <missing|put of T>"},
		{"u := U{T: &T{x: 1}, M: K(4), y: 2}; print(u.y, u.x); u.get()", "panic: 2 1<missing|get of U twice>"},
		{"nil(*T).get()", "panic: <nil|method get>"},
		{"x := nil; x.get()", "panic: <nil|field get>"},
		{"print(len([1, 2]), cap([]), append([], 1), copy([1], [2]), make(1), show(\"a\"), typeof(K(1)), delete(map{}, 1), recover())", "done: 2 0 [1] 1 [nil] \"a\" K nil nil"},
		{"print(); print(print(1))", "done: |1|nil"},
		{"len(1, 2)", "panic: <arguments|2 for 1>"},
		{"panic(f(1))", "panic: f 1{1}"},
		{"panic(nil)", "panic: <panic|>"},
	})
}

func TestDefers(t *testing.T) {
	t.Parallel()
	wantRows(t, calling, []row{
		{"defer f(f(1)); print(2)", "done: f 1|2|f 1"},
		{"defer func(a) { print(\"l\", a) }(f(1)); defer print(\"b\", f(2)); print(3)", "done: f 1|f 2|3|b 2|l 1"},
		{"t := &T{x: 1}; defer t.put(5); defer print(t); defer print(t.x); t.x = 2; defer func() { print(t.x) }()", "done: 2|1|&T{x: 2}"},
		{"t := T{x: 1}; defer print(t.get()); defer t.get(); g := t.get; defer g(); t.x = 9", "done: 1"},
		{"defer T.get(T{x: f(1)}); defer (*T).put(&T{}, f(2)); print(3)", "done: f 1|f 2|3"},
		{"defer T.get(1); defer caught(); print(3)", "panic: 3|caught nil<conversion|int is not T>"},
		{"defer nil(func)(f(1)); print(2)", "panic: f 1|2<nil|call>"},
		{"defer caught(); defer nil(func)(); print(2)", "done: 2|caught &fault{word: \"nil\", more: \"call\"}"},
		{"defer 1(f(2)); print(3)", "panic: f 2<operand|() int>"},
		{"defer f(1, 2); print(3)", "panic: 3<arguments|2 for 1>"},
		{"defer len(1); print(3)", "panic: 3<operand|len int>"},
		{"defer recover(); panic(1)", "panic: {1}"},
		{"defer panic(2); panic(1)", "panic: {2}"},
		{"defer caught(); defer panic(2); panic(1)", "done: caught 2"},
		{"defer func() { caught() }(); panic(1)", "panic: caught nil{1}"},
		{"defer func() { print(recover()); print(recover()) }(); panic(1)", "done: 1|nil"},
		{"defer delete(map{1: 2}, f(1)); defer append([1], f(2)); defer copy([1], [f(3)]); defer make(2); defer show(1); defer typeof(1); defer cap([1]); defer len([2]); print(4)", "done: f 1|f 2|f 3|4"},
		{"for i in 3 { defer print(i) }; print(\"end\")", "done: end|2|1|0"},
		{"x := 1; defer func() { x++; print(x) }(); x = 5; return x", "done: 6"},
		{"print(func() { defer func() { recover() }(); panic(1); return 2 }(), func() { x := 1; defer func() { x = 9 }(); return x }())", "done: nil 1"},
	})
}

func TestDepths(t *testing.T) {
	t.Parallel()
	for _, x := range []struct{ s, must string }{
		{"func f(n) { if n > 0 { return f(n - 1) + 1 }; return 0 }\nfunc main() { print(f(20)) }", "done: 20"},
		{"func f(n) { defer g(n); if n > 0 { f(n - 1) } }\nfunc g(n) { print(n); if n == 3 { f(1) } }\nfunc main() { f(4) }", "done: 0|1|2|3|0|1|4"},
		{"func f() { f() }\nfunc main() { f() }", "overflow: "},
		{"func f() { defer f() }\nfunc main() { f() }", "overflow: "},
		{"var a = f(3)\nfunc f(n) { if n == 0 { return [n] }; return append(f(n - 1), n) }\nfunc main() { print(a, f(1)) }", "done: [0, 1, 2, 3] [0, 1]"},
		{"func main() { func() { func() { func() { print(1) }() }() }() }", "done: 1"},
		{"type T = int\nfunc (t T) down() { print(t); if t > T(0) { f := T(t - T(1)).down; f() } }\nfunc main() { T(3).down() }", "done: T(3)|T(2)|T(1)|T(0)"},
		{"func main() { e := &fault{word: \"w\"}; print(e.Error(), (*fault).Error(e)); f := e.Error; defer f(); e = nil(*fault); e.Error() }", "panic: w w<nil|field word>"},
	} {
		want(t, x.s, x.must)
	}
}

// The program's variables are made one by one, ahead of main.
func TestBeginning(t *testing.T) {
	t.Parallel()
	for _, x := range []struct{ s, must string }{
		{"var a = b\nvar b = f(2)\nvar c = b\nfunc f(x) { print(\"f\", x, a, b, c); return x }\nfunc main() { print(a, b, c) }", "done: f 2 nil nil nil|nil 2 2"},
		{"func main() { print(a) }\nvar a = 1 / 0", "panic: <divide|>"},
		{"var a = recover()\nvar b = print(a)\nvar c = panic(7)\nfunc main() { }", "panic: nil{7}"},
		{"var a = func(x) { return func() { x++; return x } }(3)\nfunc main() { a(); print(a(), b) }\nvar b = a()", "done: 6 4"},
		{"var a = true && f(1) || false\nvar main_ = main\nfunc f(x) { return x == 1 }\nfunc main() { print(a); a = nil; b = 5; print(b) }\nvar b = [1][0]", "done: true|5"},
		{"var a = main()\nfunc main() { print(\"main\") }", "done: main|main"},
		{"var x = 1\nfunc main() { x++; x = x * 5; x, y := x.(int); print(x, y); func() { x = 3 }(); print(x) }", "done: 10 true|3"},
	} {
		want(t, x.s, x.must)
	}
}
