package units_test

import (
	"strings"
	"testing"
)

// Functions with a variable V: it is seen where IN stands, and is not where OUT stands.
var scoped = []string{
	// parameters and receivers
	"func $g(V) { print(IN); { print(IN) } } func $h() { print(OUT) }",
	"func $g(p, V, q) { IN = IN; IN++; IN(IN) }; var $w = OUT",
	"var $w = OUT; func (V $T) m() { print(IN) }; func (t $T) n() { print(OUT) }",
	"func (V *$T) m(p) { return func() { return IN } }; func $h() { return OUT }",
	"func (t $T) m(V) { print(IN) }; var $w = func() { return OUT }",
	// variables of a function's own block, and of one within it
	"func $g() { print(OUT); V := OUT; print(IN); { IN++ } } func $h() { OUT++ }",
	"func $g() { { print(OUT); V := OUT; print(IN); if IN { IN = IN } }; print(OUT) }",
	"func $g() { { { V := [OUT, func() { return OUT }]; IN() }; OUT() }; V := OUT; { IN() } }",
	"func $g() { V := 1; V := IN; print(IN) }",
	"func $g(V) { V := IN; print(IN) }",
	"func $g() { V := 1; { V := IN; IN++ }; IN++ } func $h() { OUT++ }",
	"func $g() { V := func() { V := OUT; return IN }; return IN }",
	"func $g() { { { { V := 1 } }; OUT++ }; OUT++; V := OUT; { { { IN++ } } }; IN++ }",
	// of two variables
	"func $g() { u, V := OUT.(int); print(IN) }",
	"func $g() { V, u := OUT[OUT]; print(IN) } func $h() { print(OUT) }",
	"func $g() { { V, V := OUT[1]; V, u := IN[IN]; u, w := IN.(int) }; u, w := OUT[OUT] }",
	// blocks of statements
	"func $g() { if OUT { V := OUT; IN++ } else if OUT { OUT++; V := 1; IN++ } else { OUT++ }; OUT++ }",
	"func $g() { if OUT { V := 1 } else { OUT++; V := OUT }; if OUT { OUT++ } }",
	"func $g() { for OUT { OUT++; V := OUT; IN++ }; for { V := 1 }; for OUT { } }",
	"func $g() { switch OUT { case OUT: V := OUT; IN++; case OUT, OUT: OUT++; default: OUT++; V := 1; IN++ }; OUT++ }",
	"func $g() { V := 1; switch IN { case IN: V := IN; IN++; case IN, IN: IN++; default: IN++ }; IN++ }",
	"func $g() { switch { case OUT: V := 1; case OUT: OUT++ } }",
	// loops over something
	"func $g() { for V in OUT { print(IN) }; print(OUT) }",
	"func $g() { for u, V in [OUT, OUT] { print(IN); { print(IN) } }; print(OUT) }",
	"func $g() { for V, V in OUT { for V in IN { IN++ }; IN++ }; for _, u in OUT { OUT++ } }",
	"func $g() { for _, V in OUT { V := IN; IN++ }; OUT++ }",
	"func $g() { for V in func() { return OUT } { func() { print(IN) }() }; OUT() }",
	"func $g() { for V, u in OUT { }; for u, V in OUT { }; for u, w in OUT { OUT++ } }",
	// switches over types
	"func $g(e) { switch V := OUT.(type) { case int: print(IN); case text, nil: IN++; default: IN() }; print(OUT) }",
	"func $g(e) { switch V := e.(type) { case int: { IN++ }; V := IN; IN++; case text: V := func() { return IN }; default: }; OUT++ }",
	"func $g(e) { switch OUT.(type) { case int: OUT++; V := OUT; IN++; case text: OUT++; default: OUT++ }; OUT++ }",
	"func $g(e) { switch u := OUT.(type) { case int: OUT++; default: OUT() } }",
	"func $g(e) { switch V := OUT.(type) { }; OUT() }",
	"func $g(V) { switch V := IN.(type) { case int: IN++ }; IN++ }",
	"func $g(e) { switch V := OUT.(type) { case int: switch V := IN.(type) { case int: IN++ }; IN++ }; OUT++ }",
	// closures
	"func $g() { u := func(V) { print(IN); return func() { return IN } }; print(OUT) }",
	"func $g() { u := func() { print(OUT); V := OUT; return IN }; print(OUT) }",
	"func $g() { V := func() { return OUT }; u := func() { IN(); V := IN; IN() }; IN() }",
	"func $g() { u := func() { return OUT }; V := 1; w := func() { return IN } }",
	"func $g(V) { return func() { return func(p) { return [p, IN] } } }",
	"func $g(V) { return func(V) { V := IN; return IN }(IN) }",
	"var $w = [OUT, func(V) { return IN }, OUT]; var $u = OUT",
	"var $w = func() { OUT++; V := OUT; { IN++ } }; func $h() { OUT++ }",
	"var $w = func(p) { return func(q, V) { return IN } }(OUT)",
	"func $g() { func(V) { IN() }(OUT); defer func(V) { }(OUT); OUT() }",
	"func $g() { return [func(V) { return IN }, OUT, func() { V := 1 }, OUT, func() { for V in 3 { } }, OUT] }",
	// labels, fields and methods are no variables
	"func $g() { V: for OUT { break V }; V: switch OUT { default: OUT++ }; OUT++ }",
	"func $g(p) { p.q = 1; u := U{q: OUT}; u.r.V = OUT; u = U{V: OUT}; OUT++ }",
	"type $U struct { q }; func (t $T) m() { OUT++ }; func $h() { OUT++ }",
	"func $g() { break V; continue V; OUT++ }",
}

// scope puts a variable's name into a form, and what is meant by it.
func scope(form, name, in, out string) string {
	form = strings.NewReplacer("IN", in, "OUT", out).Replace(form)
	form = strings.ReplaceAll(form, "} func", "}\nfunc")
	return strings.ReplaceAll(form, "V", name) + "\n"
}

// A name that is declared is the variable's, where one of that name is seen; else it is joined.
func TestVariablesThatHideNames(t *testing.T) {
	const rest = "type $T struct { n }\n"
	for _, form := range scoped {
		formed(t, scope(form, "x", "x", "$x")+rest+"var $x = 1")
		formed(t, "func $f() { }\n"+scope(form, "f", "f", "$f")+rest)
		formed(t, scope(form, "L", "L", "$L")+rest+"type $L = list")
		formed(t, scope(form, "none", "none", "none")+rest)
		formed(t, scope(form, "a__x", "a__x", "a__x")+rest)
	}
}

// A unit is spoken of where no variable of its name is seen.
func TestVariablesThatHideUnits(t *testing.T) {
	const rest = "type $T struct { n }\n"
	for _, form := range scoped {
		formed(t, scope(form, "a", "a.x", "@a.x")+rest)
		formed(t, scope(form, "a", "a.none", "@a.f")+rest)
		formed(t, scope(form, "a", "a.x.y.a", "@a.T.y.a")+rest+"var $y = 1")
		formed(t, scope(form, "a", "(*a).f", "(*a).f")+rest+"func $f() { }")
		formed(t, scope(form, "b", "b.x", "b.x")+rest)
	}
}

// The names of an assertion, or a look into a map, of two values are places.
func TestPlacesOfTwoValues(t *testing.T) {
	for _, form := range []string{
		"func $g(V) { IN, u = IN[IN]; u, IN = IN.(int) }",
		"func $g() { OUT, OUT = OUT[OUT]; V := 1; IN, IN = IN.(int) }",
		"func $g() { { V, u := 1[1]; IN, u = IN[1] }; OUT, u = OUT.($T) }",
		"func $g() { for V in OUT { u, IN = 1[2] }; u, OUT = 1[2] }",
		"func $g() { switch V := OUT.(type) { case $T: IN, u = IN.($T) }; OUT, u = 1[2] }",
		"func $g() { u := func(V) { IN, u = u[1] }; OUT, u = u[1] }",
		"func (V $T) m() { u, IN = u[1] }",
	} {
		formed(t, scope(form, "x", "x", "$x")+"\ntype $T struct { n }\nvar $x = 1")
		formed(t, scope(form, "none", "none", "none")+"\ntype $T struct { n }")
		formed(t, scope(form, "a", "a", "a")+"\ntype $T struct { n }")
	}
}
