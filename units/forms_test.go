package units_test

import (
	"regexp"
	"strings"
	"testing"

	"guise/units"
)

// A form is written once: $x is a name of the unit itself that gets its joined name, @a.x speaks of the unit a, all else stays.

var speaking = regexp.MustCompile(`@(\w+)\.(\w+)`)

func sourceOf(form string) string {
	return strings.ReplaceAll(strings.ReplaceAll(form, "$", ""), "@", "")
}

func wantOf(form, own, other string) string {
	return strings.ReplaceAll(speaking.ReplaceAllString(form, other+"${2}"), "$", own)
}

// What stands in the unit a.
const inA = "var $x = 1\nfunc $f(n) { return n }\ntype $T struct { n }\ntype $S struct { .$T }\ntype $L = list\nprotocol $P { m(0) }\nvar $y = $x\nvar $main = 2\n"

// formed: a form in a unit that imports the first one, in one that imports another one, and in the first one.
func formed(t *testing.T, form string) {
	t.Helper()
	source := "import a\n" + sourceOf(form)
	joins(t, of("a", sourceOf(inA), "b", source), wantOf(inA, "", "")+wantOf(form, "b__", ""))
	joins(t, of("main", "", "b", source, "a", sourceOf(inA)), wantOf(inA, "a__", "")+wantOf(form, "b__", "a__"))
	joins(t, of("main", source, "a", sourceOf(inA), "z", "var x = 1"), wantOf(inA, "a__", "")+wantOf(form, "", "a__")+"\nvar z__x = 1")
}

// Declarations have their joined names; what stands in them has, where it names one.
func TestDeclarations(t *testing.T) {
	for _, form := range []string{
		"", "var $x = 1", "var $b = 1", "var $x = $x", "var $main = 1", "var $x = 1\nvar $y = $x", "var $x = $y\nvar $y = 1", "var $x = 1\nvar $x = 2",
		"type $T = int", "type $T = list", "type $T = map", "type $T = func", "type $T = U", "type $list = list\ntype $T = list", "type $T = T",
		"type $T struct { }", "type $T struct { x; y }\nvar $x = 1", "type $T struct { T }", "type $T struct { x; T; P }\nprotocol $P { }",
		"type $T struct { .$S }\ntype $S struct { }", "type $T struct { .*$S; x }\ntype $S struct { x }", "type $T struct { .$P; .*$T }\nprotocol $P { m }",
		"type $T struct { .fault; .error; .U; .*V }", "type $T struct { .a__T; .*a__S; .a__P }", "type $T struct { .$x; .*$f }\nvar $x = 1\nfunc $f() { }",
		"protocol $P { }", "protocol $P { P(0); T(1); x(2) }\ntype $T = int\nvar $x = 1", "protocol $P { m(12); n(0) }", "protocol $P { $Q; m(1) }\nprotocol $Q { $P }",
		"protocol $P { error; any1; a__P; $T; $x }\ntype $T = int\nvar $x = 1",
		"func $f() { }", "func $f(x, y) { }\nvar $x = 1", "func $f(f) { }", "func $main() { $main() }", "func $print() { $print() }\nfunc $g() { len(1) }",
		"type $int = float\nvar $x = $int(1)\nvar $y = float(1)", "type $error struct { }\nprotocol $P { $error }\nvar $x = $error{}",
		"type $T = int\nfunc (t $T) m() { }", "type $T struct { }\nfunc (t *$T) m(x) { }\nvar $x = 1", "func (t U) m() { }\nfunc (t *U) m() { }", "func (t a__T) m() { }",
		"type $T = int\nfunc (T $T) T(x) { return T }", "type $T = int\nfunc (t $T) f() { $f() }\nfunc $f() { }", "func (x int) f() { }\nvar $x = 1\nfunc $f() { }", "func (x $x) f() { }\nvar $x = 1",
	} {
		formed(t, form)
	}
}

// inBody is a form in a function's body, in a closure, and a method's; all names are there that forms name.
func inBody(t *testing.T, form string) {
	t.Helper()
	const names = "\nvar $x = 1\nvar $y = 2\nfunc $f(l) { }\ntype $T struct { n }\ntype $L = list\nprotocol $P { }"
	formed(t, "func $g(v, m) { "+form+" }"+names)
	formed(t, "var $w = func(v, m) { "+form+" }"+names)
	formed(t, "type $M = int\nfunc (v $M) h(m) { if v { for { "+form+" } } }"+names)
}

// places are where an expression may stand, E.
var places = []string{
	"u := E", "v = E", "v += E", "u, w := E[1]", "u, w := v[E]", "u, w := E.(int)", "v, m = E[1]", "v, m = v[E]", "v, m = E.(int)",
	"E = 1", "E <<= 1", "E = E", "E++", "E--", "E[1] = 1", "v[E] = 1", "E.q = 1", "E.q.r++", "*E = 1", "(*E).q = 1", "v[1][E]--",
	"if E { }", "if v { E++ } else if E { E = 1 } else { E() }", "for E { E() }", "for i in E { }", "for i, j in E { E(i) }", "for _, j in E { }", "L: for _ in E { break L }",
	"switch E { case E: E(); default: v = E }", "switch { case 1, E: case E, 2: E() }", "L: switch E { default: break L }",
	"switch E.(type) { case int: E(); default: v = E }", "switch u := E.(type) { case nil: v = [u, E] }",
	"return E", "return", "defer E(E)", "E()", "E(E, E)", "E.q(E)", "E(1)(2)", "print(E)", "{ E() }",
	"v = [E, 1, E]", "v = map{E: 1, 2: E}", "v = fault{word: E, more: E}", "v = &U{q: E}", "v = a__T{n: E}", "v = func(p) { return E }", "v = func() { func() { E() }() }",
	"v = E.q", "v = E.q.r", "v = E[E]", "v = E[E:E]", "v = E[:]", "v = E[:E:E]", "v = E[E:1:2]", "v = E(E)", "v = E.(int)", "v = E.(*U).q",
	"v = -E", "v = !E", "v = ^E", "v = *E", "v = E + E", "v = E && 1 || E", "v = 1 < E", "v = (*E).q", "v = (E)", "v = ((E).q)", "v = map(E)", "v = int(E)",
}

var standingE = regexp.MustCompile(`\bE\b`)

func put(place, expression string) string {
	return standingE.ReplaceAllLiteralString(place, expression)
}

// A name of the unit and what another one is asked for, where an expression or a place may stand; and names that are neither.
func TestExpressions(t *testing.T) {
	for _, place := range places {
		for _, e := range []string{"$x", "$f", "$T", "@a.x", "@a.f", "@a.T", "@a.main", "(@a.x)", "@a.x.y", "none", "a__x", "b__x", "v", "v.x"} {
			inBody(t, put(place, e))
		}
	}
	for _, e := range []string{"$x", "@a.x", "none", "a__x", "$x + @a.y", "func(p) { return $x(p, $x.y) }", "func(x) { return x(@a.x, a) }"} {
		formed(t, "var $v = "+e+"\nvar $x = 1")
	}
}

// What another unit is asked for, and what stands beside it.
func TestSelects(t *testing.T) {
	for _, form := range []string{
		"v = @a.x", "v = @a.T.m", "v = (*@a.T).m", "v = @a.f(@a.x, @a.y)", "v = @a.x.x", "v = @a.x.x.x", "v = @a.f.a.x", "v = v.a.x", "v = v.a", "v = (*a).x", "v = a[1].x", "v = a().x", "v = (-a).x",
		"v = \"a\".x", "v = @a.L([1])", "v = @a.x[@a.y]", "v = @a.P", "@a.x = @a.y", "@a.x += 1", "@a.f()", "defer @a.f(1)", "v = b.x", "v = main.x", "v = z.x", "v = none.x", "a = 1", "a++", "a()", "v = a", "v = &U{a: a}",
		"v = fault{x: @a.x}", "v = v.x", "v = v.T", "v.x = 1", "v.f()", "v = v.P.L", "v = $x.x", "v = $T.f", "v = (*$T).T", "v = $T.T", "v = $x.a.x", "v = nil.x", "v = true.T", "v = 1 .x", "v = [].x",
		"a: for { break a }", "x: for { continue x }", "T: switch { case 1: break T }", "v = \"x\" + \"T\"", "v = \"a__x\"", "v = true", "v = nil", "v = map(1)", "v = map{}", "v = []", "v = 1.5",
		"switch 1 { case 1: fallthrough; case 2: }", "return", "v = func() { }", "if 1 { } else { }", "for { }",
	} {
		inBody(t, form)
	}
}

// Types where they are asked for: no variable hides them.
func TestTypes(t *testing.T) {
	for _, form := range []string{
		"v = v.(TYPE)", "v = v.(*TYPE)", "v = @a.x.(TYPE)", "u, w := v.(TYPE)", "u, w := v.(*TYPE)", "v, m = v.(TYPE)", "v = nil(TYPE)", "v = nil(*TYPE)",
		"switch v.(type) { case TYPE: case *TYPE: case nil, *TYPE, TYPE, any, map, func: default: }", "switch u := v.(type) { case TYPE: u = u.(TYPE) }", "L: switch u := v.(type) { case *TYPE: break L }",
		"v = TYPE{}", "v = TYPE{n: $x}", "v = &TYPE{n: @a.x}", "v = [TYPE{n: TYPE{}}, v.(TYPE)]", "if (TYPE{}) == v { }", "NAME := v.(TYPE); v = nil(*TYPE); v = TYPE{n: v}; v = NAME", "for NAME, i in (TYPE{}).n { switch NAME { case v.(TYPE): } }",
		"func(NAME) { v = nil(TYPE); switch NAME.(type) { case TYPE: } }(v)", "switch NAME := v.(type) { case TYPE: v = NAME.(*TYPE) }",
	} {
		for _, name := range []string{"$T", "$L", "$P", "$x", "$f", "U", "fault", "a__T", "b__T", "a"} {
			inBody(t, strings.NewReplacer("TYPE", name, "NAME", strings.TrimPrefix(name, "$")).Replace(form))
		}
	}
}

// Two units of one name's declarations do not meet; what one calls as another one is called, it calls by its joined name.
func TestUnitsBesideOneAnother(t *testing.T) {
	joins(t, of("main", "func main() { b__x = c__f(x) }\nvar x = 1", "b", "var x = 2\nfunc f() { x = c__x }", "c", "import b\nvar x = b.x\nfunc f(n) { b.f(); return x + main__x }"),
		"func main() { b__x = c__f(x) }\nvar x = 1\nvar b__x = 2\nfunc b__f() { b__x = c__x }\nvar c__x = b__x\nfunc c__f(n) { b__f(); return c__x + main__x }")
	joins(t, of("m", "import b c\nvar x = [b.x, c.x, m.x]", "b", "import m1\nvar x = m1.x", "c", "import b m1\nvar x = [m1.x, b.x]", "m1", "var x = 1"),
		"var m1__x = 1\nvar b__x = m1__x\nvar c__x = [m1__x, b__x]\nvar x = [b__x, c__x, m.x]")
	joins(t, of("m", "", "b", "import a_\nvar x = a_.x", "a_", "var x = a_.x", "a", "var _x = 1"), "var a___x = a_.x\nvar b__x = a___x\nvar a___x = 1")
	joins(t, []units.Unit{{Name: "m"}, {Name: "b"}, {Name: "c", Source: "// nothing"}}, "")
}
