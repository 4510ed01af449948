package units_test

import (
	"regexp"
	"strings"
	"testing"

	"guise/api"
	"guise/units"
)

// inEach: the error of a source is told in the first unit, in another one, and in one that is imported; a stands ahead of it.
func inEach(t *testing.T, code api.Errno, name, source string) {
	t.Helper()
	const a = "var x = 1\ntype T struct { n }"
	source = "import a\n" + source
	unjoined(t, code, "main."+name, "main", source, "a", a)
	unjoined(t, code, "main."+name, "main", source, "a", a, "b", "#")
	unjoined(t, code, "b."+name, "main", "", "b", source, "a", a)
	unjoined(t, code, "b."+name, "a", a, "b", source)
	unjoined(t, code, "b."+name, "main", "import b c\n#", "b", source, "a", a, "c", "import b\n#")
}

// notFirst: what is wrong in a unit that is not the first one.
func notFirst(t *testing.T, code api.Errno, name, source string) {
	t.Helper()
	source = "import a\n" + source
	unjoined(t, code, "b."+name, "main", "", "b", source, "a", "")
	unjoined(t, code, "b."+name, "main", "import b\n#", "b", source, "a", "")
	unjoined(t, code, "b."+name, "a", "", "b", source)
	all, _ := marked("main", source, "a", "")
	fine(t, all)
}

// Each declaration's name is asked, and no other.
func TestWrongNames(t *testing.T) {
	for _, declared := range []string{"~type X = int", "~type X struct { }", "~protocol X { }", "~func X() { }", "~var X = 1"} {
		for _, name := range []string{"a__x", "__", "__x", "x__", "a___b", "main__"} {
			inEach(t, api.ErrUnit, name, strings.Replace(declared, "X", name, 1))
		}
		inEach(t, api.ErrTwice, "a", strings.Replace(declared, "X", "a", 1))
		inEach(t, api.ErrTwice, "a", "var b = 1\n"+strings.Replace(declared, "X", "a", 1)+"\nvar a = 1\nvar c__ = 1")
	}
	const hidden = "a := a__b; a = a__b; { main__ := 1 }; for a, x__y in 3 { }; switch a__ := 1.(type) { case a__T: }; a__b: for { break a__b }; func(a, __) { }(1)"
	for _, source := range []string{
		"type T struct { a; a__b; .a__c; .*a__d }", "protocol P { a(0); a__b(1); a__c }", "func (a a__T) a() { }\nfunc (__ T) a__b(a, c__d) { }", "func f(a, __, x__) { " + hidden + " }",
		"var x = a__T{a: 1, x__: a__f(1)}", "var x = [y.a, y.a__b, nil(*a__T), z.(a__P)]", "var b = 1\nvar b_ = 2\nvar _b = 3\nvar _ab_c_ = 4\nvar A = 5",
	} {
		fine(t, of("main", "import a\n"+source, "a", ""))
		fine(t, of("main", "", "b", "import a\n"+source, "a", ""))
	}
	fine(t, of("main", "var a = 1\nvar main = 1\nvar b = 1", "a", "import b\nvar a = 1\nvar main = 1", "b", "var a = 1\nvar b = 1"))
}

// A joined name may have 40 bytes, and not one more; the first unit's names are joined as they are.
func TestLongNames(t *testing.T) {
	for _, declared := range []string{"~type X = int", "~type X struct { }", "~protocol X { }", "~func X() { }", "~var X = 1"} {
		for _, unit := range []string{"b", "_", "unit", "u234567890u234567890u234567890u234567", forty} {
			unit = strings.Replace(unit, "_", "b_", 1)
			room := 38 - len(unit)
			if room > 0 {
				source := strings.NewReplacer("~", "", "X", strings.Repeat("x", room)).Replace(declared)
				joins(t, of("main", "", unit, source), strings.Replace(source, " x", " "+unit+"__x", 1))
			}
			name := strings.Repeat("x", max(1, room+1))
			source := strings.Replace(declared, "X", name, 1)
			unjoined(t, api.ErrLong, unit+"."+name, "main", "", unit, source)
			unjoined(t, api.ErrLong, unit+"."+name, "main", "import "+unit, unit, source)
			fine(t, of(unit, strings.Replace(source, "~", "", 1), "b1", "import "+unit+"\nvar y = "+unit+"."+name))
		}
		fine(t, of("main", strings.NewReplacer("~", "", "X", forty).Replace(declared)))
		inEach(t, api.ErrLong, "", strings.NewReplacer("~", "", "X", "~"+forty+"e").Replace(declared)) // the text's error
	}
	const rest = "func (r T) X() { }\ntype T struct { X }\nprotocol P { X(0) }\nfunc f(X) { { X := X.X }; for X in 3 { X: for { } } }"
	source := strings.ReplaceAll(rest, "X", forty)
	joins(t, of("main", "", "b", source), strings.NewReplacer(" T", " b__T", " P", " b__P", " f(", " b__f(").Replace(source))
}

var namedBehind = regexp.MustCompile(`~\.(\w+)`)

// What another unit is asked for must be one of its declared names.
func TestUnknownNames(t *testing.T) {
	for _, form := range []string{
		"var v = a~.none", "var v = a~.T1", "var v = a~.a", "var v = a~.n", "var v = a~.m", "var v = a~.a__x", "var v = a~.X", "var v = a~.print", "var v = a~.fault", "var v = a.x.a + a~.a.x", "var v = (a)~.none", "var v = a~.none.none",
		"var v = [1, a.x, a~.none, a.none]", "func f() { a := a~.none }", "func f() { a~.none = 1; a.none = 1 }", "func f() { a~.none() }", "func f() { { a := 1; a.none() }; a~.none(a.none1) }", "func f(e) { switch a := a~.none.(type) { } }",
		"func f() { return func() { return a~.none } }", "func f() { return func(a) { return a.none }(a~.none) }", "func f() { for a in a~.none { } }", "func f() { a, b := a~.none[1] }", "func f() { (*a~.none).x++ }", "func (r T) m() { a~.none++ }",
		"func f() { if 1 { a := 1 } else { a~.none++ } }", "func f() { switch { case a~.none: case a.none1: } }", "var v = T{n: a~.none}", "var v = map{a~.none: a.none1}", "type T struct { .T }\nvar v = a~.U",
	} {
		inEach(t, api.ErrUnknown, namedBehind.FindStringSubmatch(form)[1], form)
	}
	unjoined(t, api.ErrUnknown, "b.x", "main", "import b\nvar y = b.x", "b", "import a\nvar y = a~.x", "a", "")
	unjoined(t, api.ErrUnknown, "main.y", "main", "import b a\nvar y = [b.x, b~.y, a.x]", "b", "var x = 1", "a", "var y = 1")
	unjoined(t, api.ErrUnknown, "main.m", "main", "import b\nvar y = b~.m", "b", "type T struct { f }\nfunc (t T) m(p) { v := 1 }\nprotocol P { w }")
	unjoined(t, api.ErrUnknown, "main.b__x", "main", "import b\nvar y = b~.b__x", "b", "var x = 1")
	fine(t, of("main", "import b\nvar y = [a.x, c.x, main.x, b1.x]", "b", "", "a", ""))
}

// Which one is told of several: in the tree's order, a node ahead of what stands in it; at one node the one that is named first.
func TestTheFirstInATree(t *testing.T) {
	inEach(t, api.ErrUnit, "a__", "~var a__ = a.none\nvar a = 1")
	inEach(t, api.ErrTwice, "a", "~var a = a.none\nvar a__ = 1")
	inEach(t, api.ErrUnknown, "none", "var v = a~.none\nvar a = 1\nvar a__ = 1")
	inEach(t, api.ErrUnknown, "none", "func f() { u := a~.none }\nfunc a() { }")
	inEach(t, api.ErrUnit, "x__", "~func x__() { u := a.none }\nvar a = 1")
	inEach(t, api.ErrUnknown, "n1", "func (t T) m(a, b) { }\nfunc f() { u := [a~.n1.n2, a.n3] }\nvar a__ = 1")
	inEach(t, api.ErrUnknown, "n1", "func f() { u := a~.n1; x := a.n2 }")
	inEach(t, api.ErrUnknown, "n1", "var v = x[a~.n1](a.n2)")
	inEach(t, api.ErrToken, "var", "var a__ = a.none ~var a = 1")
	inEach(t, api.ErrByte, "", "var a__ = a.none\n~#")

	const s = "type S struct { .S }\n"
	long := strings.Repeat("x", 38)
	notFirst(t, api.ErrUnit, "S", s+"type U struct { ~S }\n"+"var "+long+" = 1")
	notFirst(t, api.ErrLong, long, s+"~var "+long+" = 1\ntype U struct { S }")
	notFirst(t, api.ErrLong, long, s+"~type "+long+" struct { S }")
	notFirst(t, api.ErrLong, long, s+"~protocol "+long+" { S(0) }")
	notFirst(t, api.ErrUnit, "S", s+"type U struct { x; ~S; .S; S }\nfunc (t T) S() { }")
	notFirst(t, api.ErrUnit, "S", "~func (t T) S() { }\ntype U struct { S }\n"+s)
	notFirst(t, api.ErrUnit, "S", "protocol P { m(0); ~S(0) }\n"+s+"func (t T) S() { }")

	unjoined(t, api.ErrUnit, "b.S", "main", "", "b", "import a\n"+s+"~func (t T) S() { u := a.none }", "a", "")
	unjoined(t, api.ErrUnknown, "b.none", "main", "", "b", "import a\n"+s+"func (t T) m() { u := a~.none }\nfunc (t T) S() { }", "a", "")
	unjoined(t, api.ErrUnit, "b.c_"+long[2:]+"__", "main", "", "b", "~var c_"+long[2:]+"__ = 1")
	unjoined(t, api.ErrTwice, "b."+long, "main", "", "b", "import "+long+"\n~var "+long+" = 1", long, "")
}

// Unit by unit, as they stand in order: what is wrong with the text of one comes behind what is wrong with the names of one ahead.
func TestTheFirstUnitIsTold(t *testing.T) {
	unjoined(t, api.ErrUnit, "a.x__", "a", "~var x__ = 1", "b", "#")
	unjoined(t, api.ErrByte, "b.", "a", "import b\nvar x__ = 1", "b", "~#")
	unjoined(t, api.ErrByte, "a.", "a", "~#", "b", "var x__ = 1")
	unjoined(t, api.ErrUnit, "b.x__", "a", "import b\n#", "b", "~var x__ = 1", "c", "x")
	unjoined(t, api.ErrToken, "c.x", "a", "import b c\n#", "b", "import c\nvar x__ = 1", "c", "~x")
	unjoined(t, api.ErrUnknown, "c.y", "a", "import c b\nvar x__ = 1", "b", "import c\n#", "c", "import d\nvar x = d~.y", "d", "var x = y.z")
	unjoined(t, api.ErrKind, "b.m", "a", "import b\nvar x__ = 1", "b", "protocol P { ~m(13) }")
	refused(t, api.ErrImport, "c", "a", "#", "b", "var x__ = 1", "c", "import d", "d", "import c")
}

// The whole is a program as any other: it may not have too many nodes.
func TestManyNodes(t *testing.T) {
	list := func(count int, last string) string { return "[" + strings.Repeat("1,", count-1) + last + "]" }
	one := "var x = " + list(15000, "7") // 15002 nodes, and the program's
	two := func(count int, last string) string { return "var y = " + list(count, last) }
	for _, l := range [][]units.Unit{of("main", one, "b", two(4995, "x")), of("main", "import b\n"+one, "b", two(4995, "x")), of("main", "", "b", one, "c", two(4995, "x"))} {
		fine(t, l)
	}
	place := func(count int) int { return len("var y = [") + 2*(count-1) }
	is(t, "U2", joined(t, of("main", one, "b", two(4996, "x"))), wrongTold(api.ErrMany, place(4996), "x"))
	is(t, "U2", joined(t, of("main", one, "b", two(4996, "y"))), wrongTold(api.ErrMany, place(4996), "b__y"))
	is(t, "U2", joined(t, of("main", two(4996, "y"), "b", one)), wrongTold(api.ErrMany, len("var x = [")+2*14999, "7"))
	is(t, "U2", joined(t, of("main", "import b\n"+one, "b", two(4996, "y"))), wrongTold(api.ErrMany, 9+len("var x = [")+2*14999, "7"))
	is(t, "U2", joined(t, of("main", one, "b", two(4996, "\""+forty+"e\""))), wrongTold(api.ErrMany, place(4996), ""))
	is(t, "U2", joined(t, of("main", one, "b", two(10000, "y"))), wrongTold(api.ErrMany, place(4996), "1"))
	is(t, "U2", joined(t, of("main", one, "b", two(4995, "y"), "c", "func f() { }")), wrongTold(api.ErrMany, 0, "c__f"))
	is(t, "U2", joined(t, of("main", one, "b", two(4995, "y"), "c", "// nothing")), joined(t, of("main", one, "b", two(4995, "y"))))

	// What speaks of a unit is two nodes in its own text, and one in the whole.
	speaks := func(count int) string { return "import a\nvar y = [" + strings.Repeat("a.x,", count) + "]" }
	fine(t, of("main", "import a\nvar y = ["+strings.Repeat("a.x,", 9998)+"1]", "a", "var x = "+list(9996, "1")))
	is(t, "U2", joined(t, of("main", speaks(9998), "a", "var x = "+list(10000, "1"))), wrongTold(api.ErrMany, 9+len("var y = [")+4*9995+1, "a__x"))
	is(t, "U2", joined(t, of("main", speaks(9999), "a", "var x = 1")), wrongTold(api.ErrMany, 9+len("var y = [")+4*9998, "main.a"))
}
