package certain_test

import "testing"

// The types that the tables' rows are asked with.
const declared = `type K = int
type G = float
type S = text
type B = bool
type L = list
type M = map
type F = func
type T struct { x; y; .E; .*D; .P }
type E struct { z }
type D struct { d }
type O struct { x; other }
protocol P { get(0) }
func same(a) { return a }
`

const more = "K G S B L M F T *T E *E D *D O *O"

// sets asks for the sets of expressions behind some statements.
func sets(t *testing.T, statements string, rows ...row) {
	t.Helper()
	wantSets(t, declared, statements, more, rows)
}

func TestFromTheBeginning(t *testing.T) {
	wantSets(t, declared+"var g = 1\nvar h = nil", "", more, []row{{"g", "nil int"}, {"h", "nil"}})
	sets(t, "",
		row{"T{}.x", "nil"}, row{"(&T{}).y", "nil"}, row{"T{}.E", "E"}, row{"(&T{}).D", "*D"}, row{"T{}.P", "nil"}, row{"T{}.z", "nil"}, row{"T{}.d", "nil"}, row{"E{}.z", "nil"}, row{"O{}.other", "nil"},
		row{"fault{}.word", "nil text"}, row{"(&fault{}).more", "nil text"},
		row{"same(1)", "nil int"}, row{"(&fault{}).Error()", "text"}, row{"func(a, b) { }(1, 2)", "nil"},
		row{"[][0]", "nil"}, row{"map{}[0]", "nil"}, row{"recover()", "nil *fault"},
	)
	wantSets(t, declared+"func (r T) of(a, b) { return r }\nfunc (r *T) to(a, b, c) { return r }\n", "", more, []row{
		{"T{}.of(1, 2)", "nil T"}, {"(&T{}).of(1, 2)", "nil T"}, {"1(1, 2, 3, 4)", "nil *T"},
	})
	// A field's name may be of several struct types, plain in one, embedded in others.
	wantSets(t, "type A struct { .E }\ntype B struct { E }\ntype C struct { .*E }\ntype E struct { word; more }\ntype G struct { .P; A }\ntype H struct { P; .A }\nprotocol P { }\n", "", "A B C E *E G H", []row{
		{"A{}.E", "nil E *E"}, {"B{}.E", "nil E *E"}, {"(&C{}).E", "nil E *E"}, {"E{}.word", "nil text"}, {"A{}.more", "nil text"}, {"G{}.A", "nil A"}, {"H{}.A", "nil A"}, {"G{}.P", "nil"}, {"B{}.A", ""},
	})
	// What is a key has nothing from the beginning, nor has a parameter that nobody gives anything.
	want(t, "var a = 1\nvar b = 1\nfunc main() { for k, v in map{} { a = k; b = v; switch k.(type) { case int: case text: } } }", "a: int nil; b: int nil | int always; text always")
	want(t, "func f(x) { print(x.(int), x.(error)) }\nfunc main() { }", " | int always; error always")
}

func TestLiterals(t *testing.T) {
	sets(t, "x := 1.5",
		row{"true", "bool"}, row{"false", "bool"}, row{"nil", "nil"}, row{"1", "int"}, row{"1.5", "float"}, row{"\"t\"", "text"},
		row{"x", "float"}, row{"same", "func"}, row{"[]", "list"}, row{"[1, \"t\"]", "list"}, row{"map{}", "map"}, row{"map{1: 2}", "map"},
		row{"T{}", "T"}, row{"T{x: 1}", "T"}, row{"&T{}", "*T"}, row{"fault{}", "fault"}, row{"&fault{word: 1}", "*fault"}, row{"func() { }", "func"},
		row{"nil(list)", "list"}, row{"nil(map)", "map"}, row{"nil(func)", "func"}, row{"nil(L)", "L"}, row{"nil(*T)", "*T"}, row{"nil(*fault)", "*fault"},
	)
	// What stands in a literal comes into the sets, within others, too.
	sets(t, "",
		row{"[1, 1.5][0]", "nil int float"}, row{"map{true: \"t\"}[1]", "nil text"}, row{"T{x: 1}.x", "nil int"}, row{"(&T{x: 1}).x", "nil int"}, row{"T{x: 1}.y", "nil"},
		row{"[[1.5]][0]", "nil float list"}, row{"map{1: map{2: true}}[1]", "nil bool map"}, row{"T{x: T{x: 1}}.x", "nil int T"}, row{"(&T{x: &O{x: K(1)}}).x", "nil K *O"},
		row{"T{E: E{z: 1}}.z", "nil int"}, row{"T{E: 1}.E", "int E"}, row{"T{P: K(1), D: &D{}}.P", "nil K"}, row{"fault{word: 1}.word", "nil int text"}, row{"fault{word: 1}.more", "nil text"},
		row{"O{x: 1}.x", "nil int"}, row{"O{other: O{x: 1}}.x", "nil int"},
	)
	sets(t, "print([1.5], map{\"t\": true}, O{x: K(1)})",
		row{"[][0]", "nil float"}, row{"map{}[0]", "nil bool"}, row{"T{}.x", "nil K"}, row{"T{}.y", "nil"},
	)
	want(t, "var a = nil\nfunc main() { for k in map{1: 2, \"t\": map{1.5: true}} { a = k } }", "a: float int nil text | ")
}

func TestNames(t *testing.T) {
	wantSets(t, declared+"var x = 1\nvar print = 1.5\nfunc len(a) { return 2.5 }", "", more, []row{{"x", "nil int"}, {"print", "nil float"}, {"len(1)", "nil float"}, {"len", "func"}})
	// A variable that is called as a type is, or a function, is a variable.
	for _, r := range []row{{"T.x", "nil int"}, {"T", "nil O"}, {"same", "nil int"}, {"same(1)", "nil text"}, {"int", "nil O"}, {"int(1)", "nil text"}, {"int.x", "nil int"}, {"print(1)", "nil text"}} {
		wantSets(t, declared+"func hidden() { T := O{x: 1}; same := 2; int := T; print := 1; return "+r.e+" }\n", "", more, []row{{"hidden()", r.must}})
	}
}

func TestSelected(t *testing.T) {
	const methods = "func (r T) val(a) { }\nfunc (r *T) ptr(a) { }\nfunc (r E) inner(a) { }\nfunc (r *E) far(a) { }\nfunc (r *D) deep(a) { }\nfunc (r K) get() { }\n"
	wantSets(t, declared+methods, "o := O{x: 1.5}; s := T{y: \"t\"}; e := E{z: K(1)}; d := &D{d: true}; k := K(1); n := nil; p := nil(*T)", more, []row{
		{"o.x", "nil float"}, {"o.other", "nil"}, {"o.y", ""}, {"s.y", "nil text"}, {"s.x", "nil float"}, {"e.z", "nil K"}, {"s.z", "nil K"}, {"d.d", "nil bool"}, {"s.d", "nil bool"}, {"p.d", "nil bool"}, {"p.E", "E"}, {"s.D", "*D"}, {"s.P", "nil"},
		{"s.val", "func"}, {"s.ptr", ""}, {"p.val", "func"}, {"p.ptr", "func"}, {"s.inner", "func"}, {"s.far", ""}, {"p.far", "func"}, {"s.deep", "func"}, {"s.get", "func"}, {"k.get", "func"}, {"k.val", ""}, {"s.nothing", ""},
		{"n.x", ""}, {"n.get", ""}, {"1.x", ""}, {"(1).get", ""}, {"s.val.x", ""}, {"fault{}.Error", ""}, {"(&fault{}).Error", "func"}, {"(&fault{}).word", "nil text"},
		{"T.val", "func"}, {"(*T).ptr", "func"}, {"T.ptr", "func"}, {"T.nothing", "func"}, {"K.get", "func"}, {"int.nothing", "func"}, {"fault.Error", "func"}, {"(*fault).Error", "func"}, {"(*T).x", "func"}, {"T.x", "func"},
	})
	// Several types: each says for itself. A name that is there twice is nothing.
	wantSets(t, "type A struct { m; .X; .Y }\ntype X struct { two }\ntype Y struct { two }\ntype K = int\nfunc (k K) m() { }\n", "l := [A{m: 1.5}, K(1), 2]; a := l[0]", "A X Y K", []row{
		{"a", "nil int A K"}, {"a.m", "nil float func"}, {"a.two", ""}, {"a.X", "X"}, {"X{two: 1}.two", "nil int"}, {"a.X.two", "nil"},
	})
	// T{} is no name, though it is called as its type is.
	sets(t, "", row{"T{x: 1}.x", "nil int"}, row{"T{}.nothing", ""}, row{"(*&T{x: 1}).x", "nil int"}, row{"T{}(1)", "text"})
}

func TestIndexes(t *testing.T) {
	sets(t, "l := [1.5]; m := map{1: true}; s := \"t\"; k := L(l); w := M(m); v := S(s); n := nil; p := nil(list)",
		row{"l[0]", "nil float"}, row{"m[1]", "nil bool"}, row{"m[\"x\"]", "nil bool"}, row{"s[0]", "int"}, row{"k[0]", "nil float"}, row{"w[0]", "nil bool"}, row{"v[0]", "int"}, row{"n[0]", ""}, row{"1[0]", ""}, row{"p[0]", "nil float"}, row{"l[\"t\"]", "nil float"},
		row{"l[0][0]", ""}, row{"l[:]", "list"}, row{"l[0:1]", "list"}, row{"l[0:1:2]", "list"}, row{"s[1:]", "text"}, row{"s[:1:1]", "text"}, row{"k[:]", "L"}, row{"v[:]", "S"}, row{"m[:]", ""}, row{"n[:]", ""}, row{"w[:1]", ""}, row{"T{}[:]", ""}, row{"l[1:2][0]", "nil float"},
	)
	// Of several kinds each says for itself. What an index holds, or a bound, is gone over.
	sets(t, "x := [1.5]; x = \"t\"", row{"x", "text list"}, row{"x[0]", "nil int float"}, row{"x[:]", "text list"})
	sets(t, "x := map{1: true}; x = \"t\"; x = nil", row{"x[0]", "nil bool int"}, row{"x[:]", "text"})
	sets(t, "l := []; print(l[[1]], l[[true]:], l[:[1.5]], l[1:2:[\"t\"]], nil[[K(1)]])", row{"l[0]", "nil bool int float text K"})
}

func TestAsserted(t *testing.T) {
	wantSets(t, declared+"func (k K) get() { }\nfunc (d *D) get() { }\nprotocol None { }\nprotocol Q { P; set(1) }\n", "x := [1, \"t\", K(1), D{}, &D{}, nil][0]; y := K(1)", more, []row{
		{"x", "nil int text K D *D"}, {"x.(int)", "int"}, {"x.(K)", "K"}, {"x.(D)", "D"}, {"x.(*D)", "*D"}, {"x.(bool)", ""}, {"x.(*T)", ""}, {"x.(any)", "int text K D *D"}, {"x.(None)", "int text K D *D"}, {"x.(P)", "K *D"}, {"x.(Q)", ""}, {"x.(error)", ""}, {"x.(P).(K)", "K"},
		{"y.(P)", "K"}, {"y.(int)", ""}, {"nil.(any)", ""}, {"nil.(None)", ""}, {"recover().(error)", "*fault"}, {"fault{}.(error)", ""}, {"(&fault{}).(error)", "*fault"},
	})
}

func TestOperations(t *testing.T) {
	const given = "i := 1; f := 1.5; s := \"t\"; b := true; k := K(1); g := G(1.5); u := S(s); w := B(true); l := [1]; n := nil; o := [1, 1.5, \"t\", true, K(1), G(1.5), S(\"t\"), B(true), [1], nil, T{}, &T{}, nil(*D)]; x := o[0]"
	const all = "nil bool int float text list K G S B T *T *D"
	sets(t, given,
		row{"x", all}, row{"-i", "int"}, row{"-f", "float"}, row{"-s", ""}, row{"-k", "K"}, row{"-x", "int float K G"}, row{"^i", "int"}, row{"^f", ""}, row{"^x", "int K"}, row{"!b", "bool"}, row{"!w", "B"}, row{"!i", ""}, row{"!x", "bool B"},
		row{"*x", "T D"}, row{"*&T{}", "T"}, row{"*T{}", ""}, row{"*n", ""}, row{"*i", ""}, row{"*nil(*fault)", "fault"},
		row{"i + i", "int"}, row{"i + f", ""}, row{"x + x", "int float text K G S"}, row{"x + i", "int"}, row{"k + x", "K"}, row{"i + k", ""}, row{"s + s", "text"}, row{"u + s", ""}, row{"b + b", ""}, row{"l + l", ""}, row{"n + n", ""}, row{"g + x", "G"},
		row{"x - x", "int float K G"}, row{"x * x", "int float K G"}, row{"x / x", "int float K G"}, row{"s - s", ""}, row{"x - f", "float"}, row{"f * x", "float"}, row{"u / x", ""}, row{"i * k", ""},
		row{"x % x", "int K"}, row{"x & x", "int K"}, row{"x | x", "int K"}, row{"x ^ x", "int K"}, row{"x << x", "int K"}, row{"x >> x", "int K"}, row{"f % f", ""}, row{"x << i", "int"}, row{"i >> k", ""},
	)
	for _, op := range []string{"==", "!=", "<", "<=", ">", ">=", "&&", "||"} {
		sets(t, given, row{"x " + op + " x", "bool"}, row{"n " + op + " T{}", "bool"}, row{"w " + op + " w", "bool"})
	}
	sets(t, "print(-[1], [1.5] + [\"t\"], *[true], [T{}] == 1)", row{"[][0]", "nil bool int float text T"})
}

func TestConversions(t *testing.T) {
	sets(t, "", row{"int(\"t\")", "int"}, row{"bool(1)", "bool"}, row{"float(1)", "float"}, row{"text(1)", "text"}, row{"list(1)", "list"}, row{"map(1)", "map"}, row{"F(1)", "F"}, row{"K(1.5)", "K"}, row{"L([])", "L"}, row{"M(nil)", "M"})
	sets(t, "print(L([1]), M(map{1: K(1)}))", row{"[][0]", "nil int"}, row{"map{}[0]", "nil K"})
}

func TestBuiltInCalls(t *testing.T) {
	sets(t, "l := [1]; k := L(l); s := \"t\"; x := l; x = k; x = s; x = nil",
		row{"append(l, 1.5)", "list"}, row{"append(l)", "list"}, row{"append(k, 1)", "L"}, row{"append(x)", "list L"}, row{"append(s, 1)", ""}, row{"append()", ""}, row{"append(nil, 1)", ""}, row{"append(l, 1.5)[0]", "nil int float"}, row{"append(nil, true, \"t\")", ""}, row{"append(1.5)", ""},
		row{"cap(l)", "int"}, row{"copy(l, l)", "int"}, row{"len(l)", "int"}, row{"len()", "int"}, row{"len(nil, nil)", "int"}, row{"delete(map{}, 1)", "nil"}, row{"print(1)", "nil"}, row{"make(1)", "list"}, row{"make(1)[0]", "nil int"},
		row{"panic(1)", ""}, row{"recover()", "nil *fault"}, row{"recover(1)", "nil *fault"}, row{"show(1)", "text"}, row{"typeof(1)", "text"},
	)
	// What append takes but for its first part is in lists; what panics take is in recovers.
	sets(t, "print(append(1.5, \"t\", true))", row{"[][0]", "nil bool text"})
	sets(t, "append([T{}], K(1))", row{"[][0]", "nil K T"})
	sets(t, "panic(1, \"t\")", row{"recover()", "nil int text *fault"})
	sets(t, "panic()", row{"recover()", "nil *fault"})
	sets(t, "panic(nil)", row{"recover()", "nil *fault"})
	sets(t, "print([1], cap([1.5]), copy([true], 1), len([\"t\"]), delete([K(1)]), make([T{}]), panic([E{}]), show([D{}]), typeof([O{}]), recover([G(1.5)]))", row{"[][0]", "nil bool int float text K G T E D O"})
}
