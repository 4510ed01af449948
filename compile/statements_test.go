package compile_test

import "testing"

// Each statement by itself: what it does, with each fuel and depth.
func TestStatements(t *testing.T) {
	t.Parallel()
	wantRows(t, "var g = 5\nfunc f(a) { print(\"f\", a); return a }", []row{
		{"", "done: "},
		{"{ }; { { } }", "done: "},
		{"x := 1; print(x); { x := 2; print(x); { x = 3; print(x); x := 4; print(x) }; print(x) }; print(x)", "done: 1|2|3|4|3|1"},
		{"x := 1; { x := x + 1; { x := x + 1; print(x) }; print(x) }; print(x)", "done: 3|2|1"},
		{"g = g + 1; { g := g; g++; print(g) }; print(g)", "done: 7|6"},
		{"f := f(1); print(f)", "done: f 1|1"},
		{"x := 1; x += 2; x *= 5; x -= 1; x /= 2; x %= 4; x <<= 3; x |= 5; x &= 28; x ^= 1; x >>= 1; print(x)", "done: 14"},
		{"x := 1; x++; x++; x--; print(x)", "done: 2"},
		{"g++; g--; g--; print(g)", "done: 4"},
		{"l := [1, 2]; l[f(0)] += f(5); l[1]++; print(l)", "done: f 0|f 5|[6, 3]"},
		{"x := [1]; x[f(3)] = f(4)", "panic: f 3<range|index 3 of 1>"},
		{"x := [1]; x[0] += f(\"a\")", "panic: f a<operand|+ int text>"},
		{"if true { print(1) }; if false { print(2) }; print(3)", "done: 1|3"},
		{"if false { print(1) } else { print(2) }; if true { print(3) } else { print(4) }", "done: 2|3"},
		{"for i in 4 { if i == 0 { print(\"a\") } else if i == 1 { print(\"b\") } else if i == 2 { print(\"c\") } else { print(\"d\") } }", "done: a|b|c|d"},
		{"if 1 { }", "panic: <bool|int>"},
		{"if nil { } else { print(1) }", "panic: <bool|nil>"},
		{"x := 0; for x < 3 { x++; print(x) }; print(\"end\")", "done: 1|2|3|end"},
		{"for f(false) { print(1) }; print(2)", "done: f false|2"},
		{"x := 0; for { x++; if x == 2 { continue }; if x > 3 { break }; print(x) }", "done: 1|3"},
		{"for f(1) { }", "panic: f 1<bool|int>"},
		{"for i, v in [7, 8] { print(i, v) }; for i in 2 { print(i) }; for _, v in \"ab\" { print(v) }; for k, v in map{\"x\": 1, 2: nil} { print(k, v) }; for _ in 2 { print(\"-\") }", "done: 0 7|1 8|0|1|97|98|x 1|2 nil|-|-"},
		{"for i, v in 2 { print(i, v) }; for i in 0 { print(i) }; for i in -1 { print(i) }; for i in [] { print(i) }; for i in nil(map) { print(i) }", "done: 0 nil|1 nil"},
		{"for i in f(nil) { }", "panic: f nil<operand|in nil>"},
		{"l := [1, 2, 3]; for i, v in l { l[len(l) - 1] = 9; l = [0]; print(i, v) }; print(l)", "done: 0 1|1 2|2 9|[0]"},
		{"m := map{1: 1, 2: 2, 3: 3}; for k, v in m { delete(m, 2); m[4] = 4; m[3] = k; print(k, v) }", "done: 1 1|3 1"},
		{"for i in 2 { i := i; i += 5; print(i) }", "done: 5|6"},
		{"for i in 3 { i += 10; print(i) }", "done: 10|11|12"},
		{"return; print(1)", "done: "},
		{"print(1); return f(2); print(3)", "done: 1|f 2"},
	})
}

func TestSwitches(t *testing.T) {
	t.Parallel()
	wantRows(t, "var g = 5\nfunc f(a) { print(\"f\", a); return a }", []row{
		{"switch f(1) { }; print(2)", "done: f 1|2"},
		{"switch { }; print(2)", "done: 2"},
		{"switch f(1).(type) { }; print(2)", "done: f 1|2"},
		{"switch v := f(1).(type) { }; print(2)", "done: f 1|2"},
		{"switch f(1) { default: print(\"d\") }", "done: f 1|d"},
		{"switch { default: print(\"d\") }", "done: d"},
		{"switch v := f(1).(type) { default: print(v) }", "done: f 1|1"},
		{"switch f(2) { case f(1), f(2), f(3): print(\"a\"); case f(4): print(\"b\") }; print(\"end\")", "done: f 2|f 1|f 2|a|end"},
		{"switch f(4) { case f(1), f(2), f(3): print(\"a\"); case f(4): print(\"b\") }; print(\"end\")", "done: f 4|f 1|f 2|f 3|f 4|b|end"},
		{"switch f(9) { default: print(\"d\"); case f(1): print(\"a\"); case f(2): print(\"b\") }", "done: f 9|f 1|f 2|d"},
		{"switch f(9) { case f(1): print(\"a\"); default: print(\"d\"); fallthrough; case f(2): print(\"b\"); fallthrough; case 3: print(\"c\"); case 4: print(\"e\") }", "done: f 9|f 1|f 2|d|b|c"},
		{"switch f(1) { case 1: fallthrough; case f(7): fallthrough; default: print(\"d\"); case f(2): print(\"b\") }", "done: f 1|d"},
		{"switch 1 { case 1: { break }; print(2) }; switch 1 { case 1: if true { break }; print(3) }; print(4)", "done: 4"},
		{"switch [1] { case 2, [1]: }", "panic: <compare|list>"},
		{"switch f(nil) { case f([1]): print(1); case nil: print(2) }", "done: f nil|f [1]|2"},
		{"switch { case f(false), f(true): print(1); case f(true): print(2) }", "done: f false|f true|1"},
		{"switch { case f(false): print(1); case f(1): print(2) }", "panic: f false|f 1<bool|int>"},
		{"switch { case false: print(1); default: print(2); fallthrough; case false: print(3) }", "done: 2|3"},
		{"for i in 3 { switch i { case 0: continue; case 1: print(\"one\"); break; case 2: print(\"two\") }; print(\"on\", i) }", "done: one|on 1|two|on 2"},
		{"for _, x in [1, \"a\", nil, [2], &fault{word: 1}, nil(*fault), 0.5, true] { switch v := x.(type) { case int, text: print(\"it\", v); case nil: print(\"nil\", v); case error, list: v = 7; print(\"e\", v); case *fault: print(\"never\"); default: print(\"d\", v) }; switch x.(type) { case nil, bool: print(\"nb\"); case any: print(\"any\") } }", "done: it 1|any|it a|any|nil nil|nb|e 7|any|e 7|any|e 7|any|d 0x3fe0000000000000|any|d true|nb"},
		{"x := 1; switch x := f(x + 1).(type) { case int: x++; print(x) }; print(x)", "done: f 2|3|1"},
	})
}

func TestLeaving(t *testing.T) {
	t.Parallel()
	wantRows(t, "func f(a) { print(\"f\", a); return a }\nfunc g() { for i in 3 { for _, v in [7, 8] { if v == 8 { return [i, v] } } } }\nfunc h() { for i in 3 { defer f(i); if i == 1 { panic(i) } } }\nfunc k() { for { switch { case true: for x in 2 { return f(x) } } } }", []row{
		{"print(g())", "done: [0, 8]"},
		{"print(k())", "done: f 0|0"},
		{"defer func() { print(\"r\", recover()) }(); h()", "done: f 1|f 0|r 1"},
		{"h()", "panic: f 1|f 0{1}"},
		{"L: for i in 3 { for j in 3 { if j == 1 { continue L }; if i == 2 { break L }; print(i, j) } }; print(\"end\")", "done: 0 0|1 0|end"},
		{"L: for i in 2 { M: for { for j in 2 { switch j { case 1: break M; default: continue } } }; print(i); continue L; print(\"never\") }", "done: 0|1"},
		{"L: switch 1 { case 1: for { for _ in 2 { break L } } }; print(\"end\")", "done: end"},
		{"L: for i in 2 { switch v := i.(type) { case int: for _ in 2 { for _ in 2 { if v == 0 { continue L }; break L } } } }; print(\"end\")", "done: end"},
		{"for i in 2 { defer print(\"d\", i); for j in 2 { defer func() { print(\"l\", i, j) }(); continue } }", "done: l 1 1|l 1 0|d 1|l 0 1|l 0 0|d 0"},
		{"for i in 3 { if i == 1 { break }; print(i) }", "done: 0"},
		{"for i in 3 { break; print(i) }; for { break }; for true { break; continue; return }; print(1)", "done: 1"},
		{"x := 0; for x < 5 { x++; if x % 2 == 0 { continue }; print(x) }", "done: 1|3|5"},
	})
}
