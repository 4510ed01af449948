package units_test

import (
	"testing"

	"guise/api"
	"guise/units"
)

// What a unit's structs embed has its joined name as a field's, too: where it is selected, and where it is laid down.
func TestEmbeddedNames(t *testing.T) {
	const names = "type $S struct { x; y }\nprotocol $P { m(1) }\ntype $T struct { .$S; z }\ntype $U struct { .*$T; .$P }\ntype $V struct { x }\nvar $x = 1\n"
	for _, form := range []string{
		"func $g(t) { return t.$S.x }", "func $g(t) { return t.$T.$S.y }", "func $g(t) { t.$S = $S{x: t.$P}; t.$T.z = 1; t.$S.x++; t.$P.m(1) }", "func $g(t) { return t.x.$S.x.$T.z.$P }",
		"func $g(t) { return $T{$S: $S{x: 1}, z: 2} }", "func $g(t) { return &$U{$T: &$T{$S: t.$S}, $P: t} }", "func $g(t) { return U1{$T: 1, S1: 2, x: 3} }", "func $g(t) { return a__T{$S: 1, n: 2} }",
		"func $g(t) { return t().$S[1].$T(2).(any).$P }", "func $g(t) { return (*t).$S }", "func $g(t) { return $T.$S }", "func $g(t) { return (*$U).$T }", "func $g(t) { return @a.x.$S }", "func $g(t) { return @a.S }", "func $g(t) { return @a.T.$T.$S }",
		"func $g(S) { return S.$S }", "func $g(S) { S := S.$S; return $T{$S: S} }", "func $g(T) { return T.$T(T) }", "func $g(a) { return a.$S }", "func $g(a) { return a.$S.a.$P }", "func $g(t) { a := @a.S; return a.$S }",
		"var $g = $x.$S", "var $g = $T{$S: $x}", "var $g = [@a.P, $x.$P]", "var $g = map{$S: $T}", "var $g = map{$x.$S: $T{$S: 1}}",
		"func $g(t) { t.$S += t.$S }", "func $g(t) { t.$T.$S.x <<= 1 }", "func $g(t) { u, w := t.$S[1] }", "func $g(t) { u, w := t.$P.($P) }", "func $g(t) { switch t.$P.(type) { case $S: } }", "func $g(t) { for i in t.$S { } }",
		// not embedded: declared only, embedded of another unit, or by a protocol
		"func $g(t) { return t.V }", "func $g(t) { return $V{x: t.x, V: 1} }", "func $g(t) { return t.g }", "func $g(t) { return t.a__S.x }", "type $W struct { .a__S; .a__T; V; x; g }\nfunc (w $W) m1() { return w.a__S.n }\nfunc $g() { }",
		"protocol $Q { $R; V(0); g(1) }\nprotocol $R { R(1); Q(0) }\nfunc $g(t) { return t.R }\nfunc (v $V) R() { }\ntype $W struct { R }", "type $W struct { .fault; .*error }\nfunc $g(w) { return w.fault }\ntype $Y struct { fault; error }",
		"func $g(t) { return t.none }", "func $g(t) { S: for { break S } }", "func $g(S, T) { P := [S, T]; return P }", "func $g(t) { return \"S\" + \".S\" }", "type $G struct { .$G1 }\nprotocol $G1 { S1(0) }\nfunc (G1 $G) S1(P) { return G1.$G1 }",
	} {
		formed(t, names+form)
		formed(t, form+"\n"+names)
	}
}

// The first unit's embedded names stay, and may be fields' and methods' names as well; those of another unit may not be that unit's.
func TestEmbeddedNamesAsFields(t *testing.T) {
	const names = "type S struct { x }\nprotocol P { m }\nprotocol m { }\ntype T struct { .S; .*S1; .P; .fault; .a__E }\ntype S1 struct { }\n"
	for _, x := range []struct{ name, form string }{
		{"S", "type U struct { ~S }"}, {"S", "type U struct { x; y; .P; ~S; S }"}, {"S1", "type U struct { ~S1 }"}, {"P", "type U struct { ~P }"},
		{"S", "protocol Q { ~S(0) }"}, {"S", "protocol Q { m; x(1); ~S(0); P(1) }"}, {"S1", "protocol Q { ~S1(1) }"}, {"P", "protocol Q { ~P(2) }"},
		{"S", "~func (t T) S() { }"}, {"S1", "~func (t *T) S1() { }"}, {"P", "~func (t int) P(x) { }"}, {"S", "~func (S none) S(S) { }"},
	} {
		unjoined(t, api.ErrUnit, "b."+x.name, "main", "", "b", names+x.form)
		unjoined(t, api.ErrUnit, "b."+x.name, "main", "", "b", x.form+"\n"+names)
		unjoined(t, api.ErrUnit, "b."+x.name, "main", "import b", "b", x.form+"\n"+names)
		first, _ := marked("main", names+x.form, "b", "")
		joins(t, first, first[0].Source)
		second, _ := marked("b", names, "c", "import b\n"+x.form)
		fine(t, second)
		third, _ := marked("main", "import b", "c", "import b\n"+x.form, "b", names)
		fine(t, third)
	}
	for _, form := range []string{
		"type U struct { T; m; E; fault; U; none }", "protocol Q { T(0); Q(1); m(0) }",
		"func (t T) T() { }\nfunc (t T) m() { }\nfunc (t T) fault() { }\nfunc (t T) a__E() { }",
	} {
		fine(t, of("main", "", "b", names+form))
	}
}

// fine: Join takes the units.
func fine(t *testing.T, l []units.Unit) {
	t.Helper()
	if _, err := units.Join(l); err != nil {
		t.Errorf("U2: %s%v", listed(l), err)
	}
}
