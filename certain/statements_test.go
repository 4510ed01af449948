package certain_test

import (
	"slices"
	"strings"
	"testing"
)

// after asks what the variable a can have, if main is some statements.
func after(t *testing.T, declared, statements, must string) {
	t.Helper()
	s := "var a = nil\n" + declared + "\nfunc main() { " + statements + " }\n"
	n := parsed(t, s)
	got, _, _ := strings.Cut(typed(t, n), ";")
	is(t, s, got, "a: "+must)
	asTheModel(t, n, s)
}

func TestAssigned(t *testing.T) {
	wantSets(t, "var g = 1", "x := 1", "", []row{{"x", "int"}, {"g", "nil int"}})
	sets(t, "x := 1; x = 1.5", row{"x", "int float"})
	sets(t, "x := 1; { x = \"t\" }; if x { x = true } else { x = nil }", row{"x", "nil bool int text"})
	after(t, "", "a = 1; x := a; x = \"t\"; a = [x]", "int list nil")
	sets(t, "x := 1; x += 1", row{"x", "int"})
	// What comes of an operation, too: as much of it as both have.
	const given = "x := nil; y := [1, 1.5, K(1), S(\"t\"), [], nil][0]; z := 1.5; "
	for _, r := range []row{
		{"+", "int float text K S"}, {"-", "int float K"}, {"*", "int float K"}, {"/", "int float K"},
		{"%", "int K"}, {"&", "int K"}, {"|", "int K"}, {"^", "int K"}, {"<<", "int K"}, {">>", "int K"},
	} {
		sets(t, given+"all := y; z = \"t\"; x = \"t\"; y = \"t\"; both := y; both = y "+r.e+" y; some := y "+r.e+" y", row{"some", r.must})
		sets(t, given+"z "+r.e+"= y; x "+r.e+"= y", row{"x", "nil"}, row{"z", "float"})
		sets(t, given+"func() { x = 1 }(); x "+r.e+"= y", row{"x", "nil int"})
	}
	sets(t, "x := 1; y := [1.5, K(1)][0]; func() { x = y }(); z := true; z += 1; x += x", row{"x", "nil int float K"}, row{"z", "bool"})
	sets(t, "x := 1; y := 1.5; x -= y; y = x; y *= 2", row{"x", "int"}, row{"y", "int float"})
	// A step, and what is laid behind a pointer, gives nothing more; its parts are gone over.
	sets(t, "x := 1; x++; x--; p := &T{}; *p = [1.5]; *p = \"t\"; *[K(1)][0] += [true]; p.x++; [2.5][0]++", row{"x", "int"}, row{"p", "*T"}, row{"*p", "T"}, row{"p.x", "nil"}, row{"[][0]", "nil bool float K"})
}

func TestTwo(t *testing.T) {
	const given = "l := [1, \"t\", nil][0]; m := map{1: 1.5}; "
	for _, r := range []row{
		{"l.(int)", "nil int"}, {"l.(bool)", "nil"}, {"l.(any)", "nil int text"}, {"l.(error)", "nil"}, {"1.(int)", "nil int"},
		{"m[1]", "nil float"}, {"m[\"x\"]", "nil float"}, {"l[0]", "nil float"}, {"nil[0]", "nil float"}, {"\"t\"[0]", "nil float"}, // of maps alone, whatever it is
	} {
		sets(t, given+"x, ok := "+r.e, row{"x", r.must}, row{"ok", "bool"})
		sets(t, given+"x := nil; ok := nil; x, ok = "+r.e, row{"x", r.must}, row{"ok", "nil bool"})
		after(t, "var b = 1", given+"a, b = "+r.e, inOrder(r.must))
		after(t, "var b = 1", given+"b, a = "+r.e, "bool nil")
	}
	sets(t, "x := nil; x, x = 1.(int)", row{"x", "nil bool int"})
	sets(t, "x, ok := [[1]][[true]]; y, no := [2.5].(list)", row{"[][0]", "nil bool int float list"})
	// An assertion of two values hands on what holds; so does one within it.
	wantSets(t, "type K = int\nfunc (k K) m() { }\nprotocol P { m(0) }", "x, ok := [1, K(1), nil][0].(P)", "K", []row{{"x", "nil K"}})
}

// inOrder is the names of some types as they rise.
func inOrder(s string) string {
	l := strings.Fields(s)
	slices.Sort(l)
	return strings.Join(l, " ")
}

func TestFields(t *testing.T) {
	sets(t, "t := T{}; t.x = 1; t.E.z = 1.5; u := &T{}; u.D = \"t\"; u.d = true; u.P = K(1)",
		row{"t.x", "nil int"}, row{"O{}.x", "nil int"}, row{"t.y", "nil"}, row{"t.z", "nil float"}, row{"E{}.z", "nil float"}, row{"t.D", "text *D"}, row{"D{}.d", "nil bool"}, row{"t.P", "nil K"}, row{"t.E", "E"})
	// Whatever stands ahead of it, as long as any struct type has such a field.
	sets(t, "1.x = 1; nil.other = 1.5; [1].word = true; f := func() { }; f.z = \"t\"; f.nothing = 1", row{"T{}.x", "nil int"}, row{"O{}.other", "nil float"}, row{"fault{}.word", "nil bool text"}, row{"E{}.z", "nil text"})
	wantSets(t, "type T struct { x; get }\nfunc (t T) m() { }\nfunc (t T) set() { }", "T{}.m = 1; T{}.set = 2; T{}.get = 1.5; T{}.Error = 3", "T", []row{{"T{}.m", "func"}, {"T{}.get", "nil float"}, {"(&fault{}).Error", "func"}})
	// Of a type's method nothing is laid down; but what should be is gone over.
	sets(t, "T.x = 1; (*T).y = 1.5; T.x += 1; (*T).y -= [true]; K.z = [\"t\"]; int.d = 2", row{"T{}.x", "nil"}, row{"T{}.y", "nil"}, row{"E{}.z", "nil"}, row{"D{}.d", "nil"}, row{"[][0]", "nil bool text"})
	// An operation: as much as both have; of what has no such field nothing.
	sets(t, "t := T{x: 1, y: \"t\"}; t.x = 1.5; t.x += t.y; t.y += t.x; t.y += \"t\"; 1.other += 1; o := O{other: 1}; o.other += 1.5; o.other <<= 2", row{"t.x", "nil int float"}, row{"t.y", "nil text"}, row{"o.other", "nil int"})
	sets(t, "t := T{x: 1}; t.y = 2.5; x := t.x; x = 2.5; t.x -= x; 1.y *= 3; t.z = t.x; t.z -= 2.5", row{"t.x", "nil int"}, row{"t.y", "nil float"}, row{"t.z", "nil int"})
	sets(t, "t := T{x: 1}; t.x = 2.5; t.E.z = 1; t.z = 1.5; y := 1; y = t.x + t.z", row{"y", "int float"})
}

func TestElements(t *testing.T) {
	sets(t, "l := []; l[0] = 1; k := L([]); k[0] = 1.5", row{"l[0]", "nil int float"}, row{"map{}[0]", "nil"})
	sets(t, "m := map{}; m[1.5] = 1; k := M(m); k[true] = \"t\"", row{"m[0]", "nil int text"}, row{"[][0]", "nil"})
	after(t, "", "m := map{}; m[1.5] = 1; for k in m { a = k }", "float nil")
	after(t, "type M = map", "m := nil(M); m[1.5] += 1; for k, v in map{} { a = k }", "float nil")
	// Both, if it can be both; nothing, if it is neither.
	sets(t, "x := []; x = map{}; x[1] = 1.5", row{"[][0]", "nil float"}, row{"map{}[0]", "nil float"})
	after(t, "", "x := []; x = map{}; x[\"t\"] = 1.5; for k in x { a = k }", "int nil text")
	sets(t, "nil[0] = 1; 1[0] = 1.5; \"t\"[0] = \"t\"; T{}[0] = true", row{"[][0]", "nil"}, row{"map{}[0]", "nil"})
	after(t, "", "l := []; l[1.5] = 1; for k in map{} { a = k }", "nil")
	// An operation: as much as both have; of a text that is an int.
	sets(t, "l := [1, \"t\"]; l[0] += 1.5; m := map{1: 1.5}; m[1] += 1", row{"l[0]", "nil int text"}, row{"m[1]", "nil float"})
	sets(t, "x := []; x = \"t\"; x[0] += 1; y := [2.5]; y[0] -= 1.5", row{"[][0]", "nil int float"})
	sets(t, "x := [\"t\"]; y := x; y = map{1: 1.5}; z := [\"t\", 1.5, 1][0]; y[0] += z", row{"[][0]", "nil int float text"}, row{"map{}[0]", "nil int float text"})
	sets(t, "[1][[1.5]] = [true]", row{"[][0]", "nil bool int float list"})
}

func TestRanged(t *testing.T) {
	const given = "l := [1.5]; m := map{true: \"t\"}; "
	for _, r := range []struct{ e, first, second string }{
		{"3", "int", "nil"}, {"K(3)", "int", "nil"}, {"l", "int", "nil float"}, {"L(l)", "int", "nil float"}, {"\"t\"", "int", "int"}, {"S(\"t\")", "int", "int"}, {"m", "bool", "nil text"}, {"M(m)", "bool", "nil text"},
		{"nil", "", ""}, {"1.5", "", ""}, {"T{}", "", ""}, {"&T{}", "", ""}, {"same", "", ""}, {"true", "", ""},
		{"[l, m][0]", "bool int", "nil float text list map"},
	} {
		ranged := func(head, e string) string {
			return given + "x := 2.5; x = 2; func() { for " + head + " in (" + r.e + ") { a = " + e + " } }()"
		}
		after(t, declared, ranged("x", "x"), inOrder("nil "+r.first))
		after(t, declared, ranged("x, y", "x"), inOrder("nil "+r.first))
		after(t, declared, ranged("_, x", "x"), inOrder(strings.TrimPrefix("nil "+strings.TrimPrefix(r.second, "nil"), "nil nil")))
		after(t, declared, ranged("y, x", "y"), inOrder("nil "+r.first))
		after(t, declared, ranged("_", "nil"), "nil")
	}
	// What is gone over, and what is done within, is gone over once.
	sets(t, "for i in [[1]] { print([2.5]) }; for true([K(1)]) { i := [\"t\"] }; for { x := [true] }", row{"[][0]", "nil bool int float text list K"})
	want(t, "func main() { x := [1, [2], map{}, 1.5][0]; for i, v in x { print(v.(float), i.(int), i.(text)) } }", " | int always; text never")
}

func TestTypeSwitched(t *testing.T) {
	const given = "x := [1, \"t\", K(1), D{}, &D{}, nil, [], 1.5][0]; "
	const methods = "func (k K) get() { }\nfunc (d *D) get() { }\nprotocol None { }\n"
	for _, r := range []struct{ cases, must string }{
		{"case int: a = v", "int"}, {"case int, text: a = v", "int text"}, {"case bool: a = v", ""}, {"case nil: a = v", ""}, {"case nil, K: a = v", "K"}, {"case any: a = v", "*D D K float int list text"}, {"case P: a = v", "*D K"}, {"case None, nil: a = v", "*D D K float int list text"}, {"case *D: a = v", "*D"}, {"case error: a = v", ""},
		{"default: a = v", "*D D K float int list text"}, {"case int: default: a = v", "*D D K float list text"}, {"default: a = v; case int: case nil, P: ", "D float list text"}, {"case P: default: a = v; case any: ", ""}, {"default: a = v; case any: case nil: ", ""},
		{"case int: case int, text: a = v", "text"}, {"case P: case *D, K, D: a = v", "D"}, {"case any: case P, int, nil: a = v", ""}, {"case *D, K: case P: a = v", ""}, {"case K: case P: a = v", "*D"}, {"case nil: case None: a = v; case any:", "*D D K float int list text"}, {"case int: default: case int, float: a = v", "float"}, {"case int, int: a = v; case int: a = \"u\".(int)", "int"}, {"case text: case any: a = v; case list: ", "*D D K float int list"},
	} {
		after(t, declared+methods, given+"switch v := x.(type) { "+r.cases+" }", inOrder("nil "+r.must))
		if !strings.Contains(r.cases, ".(") {
			after(t, declared+methods, given+"v := true; switch x.(type) { "+r.cases+" }", "bool nil")
		}
	}
	// Each case has its own; what else a case does with it is seen there alone.
	after(t, declared, given+"switch v := x.(type) { case int: v = true; case text: a = v; default: v = 1 }", "nil text")
	after(t, declared, given+"switch v := x.(type) { case int: v = true; a = v; case text: }", "bool int nil")
	// Without a name nothing is laid down. What is asked, and what stands in the cases, is gone over.
	sets(t, "switch v := [[1]].(type) { case int: print([1.5]); default: print([\"t\"]); case nil: print([true]) }; switch [K(1)].(type) { }", row{"[][0]", "nil bool int float text list K"})
	// The values of another switch's case make no list.
	sets(t, "switch 1 { case 1.5, \"t\": case [true]: print([2]); default: print([K(1)]) }; switch { case T{} == 1: }; switch [E{}] { }", row{"[][0]", "nil bool int K E"})
}

func TestReturned(t *testing.T) {
	wantSets(t, declared+"func one() { return 1 }\nfunc none() { }\nfunc two(x) { if x { return 1.5 }; for { return \"t\" } }\nfunc bare() { return }\nfunc within() { f := func() { return true }; return one() }\nfunc behind() { panic(1); return K(1) }\nfunc (d D) of() { return d }\nfunc (t *T) of(a, b, c) { return [2.5] }\n", "", more, []row{
		{"one()", "nil int"}, {"none()", "nil"}, {"two(1)", "nil float text"}, {"bare()", "nil"}, {"within()", "nil int"}, {"behind()", "nil K"}, {"D{}.of()", "nil bool text D"}, {"(&T{}).of(1, 2, 3)", "nil list"}, {"[][0]", "nil float"},
		{"func() { return 1.5 }()", "nil bool float text D"}, {"func(a, b, c, d) { return func() { return 1 } }(1, 2, 3, 4)", "nil list func"},
	})
}

func TestDeferred(t *testing.T) {
	after(t, "func f(x) { a = x }", "defer f(1)", "int nil")
	after(t, "", "defer func(x) { a = x }(1.5)", "float nil")
	after(t, "", "f := func(x) { a = x }; defer f(1); defer 2(\"t\")", "int nil text")
	after(t, "type T struct { }\nfunc (t T) m(x) { a = x }", "defer T{}.m(1); defer T.m(T{}, \"t\")", "int nil text")
	after(t, "", "defer panic(1); defer append([], 1.5); a = recover()", "*fault int nil")
	after(t, "", "defer append([], 1.5); a = [][0]", "float nil")
	after(t, "", "defer print([1]); a = [][0]", "int nil")
}

func TestFaultsOfPanics(t *testing.T) {
	after(t, "", "a = recover()", "*fault nil")
	after(t, "", "panic(\"t\"); a = recover()", "*fault nil text")
	after(t, "func f() { return 1.5 }", "panic(f()); a = recover()", "*fault float nil")
	want(t, "func main() { x := recover(); print(x.(error), x.(*fault).Error().(text), x.(int), x.(*fault).word.(text)) }", " | text always; int never")
}
