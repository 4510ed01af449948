package units_test

import (
	"strings"
	"testing"

	"guise/api"
	"guise/compile"
	"guise/names"
	"guise/types"
	"guise/units"
	"guise/walk"
)

// Programs of several units, and what they tell.
func TestPlayed(t *testing.T) {
	for _, x := range []struct {
		want  string
		units []units.Unit
	}{
		{"4", of("main", "import math\nfunc main() { print(math.twice(2)) }", "math", "var n = 2\nfunc twice(x) { return x * n }")},
		{"3|7|[3, 7]", of("main", "import count\nfunc main() { print(count.next()); count.n = 7; print(count.n); print([count.first, count.n]) }", "count", "var n = 2\nvar first = n + 1\nfunc next() { n++; return n }")},
		{"1 2 3", of("main", "import b c\nvar x = b.x + c.x - 2\nfunc main() { print(a__x, b.x, x) }", "c", "import a b\nvar x = a.x + b.x", "b", "import a\nvar x = a.x + 1", "a", "var x = 1")},
		{"shapes__Square{shapes__Named: shapes__Named{name: \"s\"}, side: 3}|9 s|true false|s", of(
			"main", "import shapes\nfunc main() { s := shapes__Square{side: 3, shapes__Named: shapes__Named{name: \"s\"}}; print(s); print(s.area(), s.name); t, ok := s.(shapes__Area); u, no := 1.0.(shapes__Area); print(ok, no); print(s.shapes__Named.name) }",
			"shapes", "type Named struct { name }\ntype Square struct { .Named; side }\nprotocol Area { area(0) }\nfunc (s Square) area() { return s.side * s.side }")},
		{"true|base says hi|conversion int is not lib__Says: no say", of(
			"main", "import lib\ntype Mine struct { .*lib__Base }\nfunc main() { m := Mine{lib__Base: lib.make1(\"base\")}; x, ok := m.(lib__Says); print(ok); lib.tell(m); defer func() { print(recover().Error()) }(); lib.tell(1) }",
			"lib", "type Base struct { name }\nprotocol Says { say(1) }\nfunc make1(n) { return &Base{name: n} }\nfunc (b *Base) say(w) { return b.name + \" says \" + w }\nfunc tell(x) { print(x.(Says).say(\"hi\")) }")},
		{"a__Int|a__Int(5)|int|none|list", of(
			"main", "import a\nfunc kind(x) { switch v := x.(type) { case a__Int: return typeof(v); case int: return \"int\"; case *a__T: return \"none\"; case list: return \"list\" } }\nfunc main() { print(kind(a.Int(5))); print(a.Int(5)); print(kind(5)); print(kind(nil(*a__T))); print(kind([])) }",
			"a", "type Int = int\ntype T struct { x }")},
		{"3 1|[1, 2]|outer", of(
			"main", "import a\nfunc f(a) { return a.x }\nfunc g() { l := [a.x]; a := a__T{x: 2}; return [l[0], a.x] }\nfunc main() { print(f(a__T{x: 3}), a.x); print(g()); h := func() { a := \"inner\"; return func() { return a } }; h(); print(a.name) }",
			"a", "var x = 1\ntype T struct { x }\nvar name = \"outer\"")},
		{"6|2|0 1|1 x", of(
			"main", "import l\nfunc main() { print(l.sum([1, 2, 3])); print(l.count()); for i in 2 { l.add(i) }; print(l.items[0], l.items[1]); k, ok := l.seen[\"k\"]; l.seen[\"k\"] = 1; k, ok = l.seen[\"k\"]; print(k, l__name) }",
			"l", "var n = 0\nvar items = []\nvar seen = map{}\nvar name = \"x\"\nfunc sum(l) { n := 0; for _, v in l { n += v; add1() }; return n }\nfunc add1() { n = n + 1 - 0 * len(items) }\nfunc count() { if n == 3 { n-- }; return n }\nfunc add(v) { items = append(items, v) }")},
	} {
		n, err := units.Join(x.units)
		if err != nil {
			t.Errorf("%s%v", listed(x.units), err)
			continue
		}
		o, err := walk.Run(n, 1000, 50)
		if got := strings.Join(o.Out, "|"); got != x.want || o.End != api.Done || err != nil {
			t.Errorf("%s%s, %v, must be\n%s", printed(t, n), got, err, x.want)
		}
		if _, err := compile.Program(n); err != nil {
			t.Errorf("%s%v", printed(t, n), err)
		}
	}
}

// Whether the program may be, chapters 4 and 5 say, not Join.
func TestProgramsThatMayNotBe(t *testing.T) {
	for _, x := range []struct {
		code  api.Errno
		name  string
		units []units.Unit
	}{
		{api.ErrMain, "main", of("a", "", "b", "func main() { }")},
		{api.ErrMain, "main", of("a", "import b", "b", "func main() { }")},
		{api.ErrMain, "main", of("a", "func main(x) { }")},
		{api.ErrTwice, "b__x", of("a", "func main() { }", "b", "var x = 1\nvar x = 2")},
		{api.ErrTwice, "a___x", of("m", "func main() { }", "a", "var _x = 1", "a_", "var x = 2")},
		{api.ErrTwice, "int", of("a", "type int = list\nfunc main() { }")},
		{api.ErrUnknown, "x", of("a", "func main() { print(x) }", "b", "var x = 1")},
		{api.ErrUnknown, "b", of("a", "import b\nfunc main() { print(b) }", "b", "")},
		{api.ErrUnknown, "b", of("a", "func main() { print(b.x) }", "b", "var x = 1")},
		{api.ErrUnknown, "b__y", of("a", "func main() { print(b__y) }", "b", "var x = 1")},
		{api.ErrUse, "b__f", of("a", "import b\nfunc main() { b.f = 1 }", "b", "func f() { }")},
		{api.ErrUse, "b__T", of("a", "import b\nfunc main() { x := b.T }", "b", "type T struct { }")},
		{api.ErrLabel, "L", of("a", "func main() { break L }", "b", "")},
		{api.ErrUnknown, "T", of("a", "func main() { x := 1.(T) }", "b", "type T = int")},
	} {
		n, err := units.Join(x.units)
		if err != nil {
			t.Errorf("U3: %s%v", listed(x.units), err)
		}
		_, err = names.Resolve(n)
		if w, ok := err.(*api.Wrong); !ok || w.Code != x.code || w.Name != x.name {
			t.Errorf("U3: %s%v, must be %d %s", listed(x.units), err, x.code, x.name)
		}
	}
	for _, l := range [][]units.Unit{of("a", "type T struct { .T }", "b", ""), of("a", "", "b", "type T struct { .T }"), of("a", "", "b", "type T = U"), of("a", "func (t T) m() { }", "b", "type T = int"), of("a", "type T struct { .b__T }", "b", "type T struct { .a__T; .c__T }", "c", "type T struct { .b__T }")} {
		n, err := units.Join(l)
		if err != nil {
			t.Errorf("U3: %s%v", listed(l), err)
		}
		if _, err := types.Make(n); err == nil {
			t.Errorf("U3: %slayer 5 takes it", listed(l))
		}
	}
	l := of("a", "type T = text\nfunc main() { }", "b", "type int = list\ntype error struct { x }\nfunc print(x) { }\nvar y = error{x: print(int([]))}")
	n, err := units.Join(l)
	if err != nil {
		t.Fatal(err)
	}
	if _, err := names.Resolve(n); err != nil {
		t.Errorf("U2: %s%v", printed(t, n), err)
	}
	if _, err := types.Make(n); err != nil {
		t.Errorf("U2: %s%v", printed(t, n), err)
	}
}
