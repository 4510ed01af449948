package types_test

import (
	"testing"
)

// A name of the type itself hides deeper ones; the next level hides what lies behind it.
func TestHidden(t *testing.T) {
	x := table(t, `
		type A struct { x; .B }
		type B struct { x; y; .C }
		type C struct { x; y; z }
		func (a A) f() { }
		func (b B) f(u) { }
		func (b B) g(u) { }
		func (c C) f(u, v) { }
		func (c C) g(u, v) { }
		func (c C) h(u, v) { }
		func (c C) y2() { }
	`)
	finds(t, x, `
		A x field 0
		A y field 1.1
		A z field 1.2.2
		A B field 1
		A C field 1.2
		A A nothing
		A g method 1 B/1
		A h method 1.2 C/2
		A y2 method 1.2 C/0
		B x field 0
		B h method 2 C/2
		C h2 nothing
	`)
	find(t, x, "A", "f", "method  A/0")
	methods(t, x, "A", "f/0 g/1 h/2 y2/0")
	methods(t, x, "B", "f/1 g/1 h/2 y2/0")
}

// A field hides a method that lies deeper, and a method a field; a method with a pointer receiver hides, even where it is not in the
// method set.
func TestHiddenByAnotherThing(t *testing.T) {
	x := table(t, `
		type A struct { f; .B }
		type B struct { g; h }
		func (b B) f() { }
		func (a A) g() { }
		func (a *A) h() { }
		type C struct { .B; .D }
		type D struct { .E }
		type E struct { }
		func (e E) h() { }
		func (e E) k() { }
		func (d *D) k() { }
	`)
	finds(t, x, `
		A f field 0
		A h nothing
		C h field 0.1
		C k nothing
		*C k method 1 *D/0
		D h method 0 E/0
		D k nothing
	`)
	find(t, x, "A", "g", "method  A/0")
	find(t, x, "*A", "h", "method  *A/0")
	methods(t, x, "A", "g/0")
	methods(t, x, "*A", "g/0 h/0")
	methods(t, x, "C", "f/0")
	methods(t, x, "*C", "f/0 k/0")
	methods(t, x, "D", "h/0")
}

// Two that have a name at one level: twice, whatever they have, and however alike; a level ahead of it nothing is seen of that.
func TestTwice(t *testing.T) {
	x := table(t, `
		type A struct { .B; .C; .*D; .P; .Q }
		type B struct { x; y; fd }
		type C struct { x; .E }
		type D struct { y; z }
		type E struct { deep; z; only }
		func (b B) m() { }
		func (c C) m() { }
		func (b *B) n() { }
		func (c *C) n() { }
		func (b B) p() { }
		func (c C) q() { }
		func (d D) fd() { }
		protocol P { p(0); pq(1) }
		protocol Q { q(0); pq(1) }
		type O struct { x; .A }
	`)
	finds(t, x, `
		A x twice
		A y twice
		A z field 2.1
		A m twice
		A n twice
		*A n twice
		A p twice
		A q twice
		A pq twice
		A fd twice
		A deep field 1.1.0
		A only field 1.1.2
		O x field 0
		O y twice
		O deep field 1.1.1.0
		O m twice
	`)
	methods(t, x, "A", "")
	methods(t, x, "*A", "")
	methods(t, x, "*O", "")
}

// Twice at a level hides what lies deeper.
func TestTwiceHides(t *testing.T) {
	x := table(t, `
		type A struct { .B; .C }
		type B struct { x; .D }
		type C struct { x }
		type D struct { x; y }
		func (d D) f() { }
		func (b B) f() { }
		func (c *C) f() { }
	`)
	finds(t, x, `
		A x twice
		A f twice
		*A f twice
		A y field 0.1.1
	`)
	methods(t, x, "A", "")
}

// Two ways of one level to one type: it is doubled, and so is what it leads to; by value or by pointer is all the same.
func TestDoubled(t *testing.T) {
	for _, one := range []string{".", ".*"} {
		for _, two := range []string{".", ".*"} {
			x := table(t, "type A struct { .B; .C }; type B struct { "+one+"D }; type C struct { "+two+"D; c }; type D struct { x; .E; .P; .*G }; type E struct { y; .F }; type F struct { z }; "+
				"protocol P { p(0) }; type G struct { }; func (d D) f() { }; func (e E) g() { }; func (f F) h() { }; func (g G) i() { }; func (g G) z() { }")
			finds(t, x, `
				A D twice
				A x twice
				A E twice
				A f twice
				A y twice
				A g twice
				A F twice
				A z twice
				A h twice
				A p twice
				A i twice
				A c field 1.1
				A B field 0
				B x field 0.0
				B y field 0.1.0
				B z method 0.3 G/0
				B h method 0.1.1 F/0
				B p protocol 0.2 P/0
				A q nothing
			`)
			methods(t, x, "A", "")
			methods(t, x, "*A", "")
			methods(t, x, "B", "f/0 g/0 h/0 i/0 p/0 z/0")
		}
	}
}

// What is doubled at its level may be had by one less deep way, which is then the only one.
func TestOnceAtALevelAhead(t *testing.T) {
	x := table(t, `
		type A struct { .B; .C; .*D }
		type B struct { .D }
		type C struct { .D }
		type D struct { x; .E }
		type E struct { y }
		func (d D) f() { }
		func (d *D) g() { }
		func (e *E) h() { }
	`)
	finds(t, x, `
		A D field 2
		A x field 2.0
		A f method 2 D/0
		A g method 2 *D/0
		A y field 2.1.0
		A h method 2.1 *E/0
	`)
	methods(t, x, "A", "f/0 g/0 h/0")
}

// A type that was an entry of a level ahead is none again: so loops of pointers end, and the first way is the one.
func TestNoneAgain(t *testing.T) {
	x := table(t, `
		type A struct { .*A; x }
		type B struct { .*C; .*B; b }
		type C struct { .*B; .*C; c; .D }
		type D struct { d; .*C }
		func (a *A) f() { }
		func (c *C) g() { }
		type L struct { .*M; .*N }
		type M struct { .*N; m }
		type N struct { .*M; n; .O }
		type O struct { o }
		func (o *O) k() { }
	`)
	finds(t, x, `
		A x field 1
		A A field 0
		A f nothing
		A y nothing
		B b field 2
		B c field 0.2
		B d field 0.3.0
		B B field 1
		B C field 0
		B D field 0.3
		C b field 0.2
		C d field 3.0
		D c field 1.2
		D b field 1.0.2
		B g method 0 *C/0
		C g nothing
		D g method 1 *C/0
		L m field 0.1
		L n field 1.1
		L M field 0
		L N field 1
		L O field 1.2
		L o field 1.2.0
		L k method 1.2 *O/0
		L nobody nothing
		M M field 0.0
		N M field 0
	`)
	methods(t, x, "A", "")
	methods(t, x, "*A", "f/0")
	methods(t, x, "L", "k/0")
}

// Of a protocol likewise: it is an entry where it stands first.
func TestProtocolsAtLevels(t *testing.T) {
	x := table(t, `
		protocol P { f(0); g(1) }
		protocol Q { P; h(2) }
		protocol R { P; Q; i(3) }
		type A struct { .P }
		type B struct { .A; .P }
		type C struct { .A; x; .D }
		type D struct { .P }
		type E struct { .Q; .R }
		type F struct { .R; f }
		type G struct { .*F; .P }
		func (a *A) i() { }
	`)
	finds(t, x, `
		A f protocol 0 P/0
		A g protocol 0 P/1
		A h nothing
		A P field 0
		*A f protocol 0 P/0
		B f protocol 1 P/0
		B P field 1
		C f twice
		C P twice
		E f twice
		E h twice
		E i protocol 1 R/3
		E Q field 0
		E P nothing
		F f field 1
		F g protocol 0 R/1
		F h protocol 0 R/2
		G f twice
		G g protocol 1 P/1
		G h protocol 0.0 R/2
		G R field 0.0
		P f nothing
		*P f nothing
	`)
	wants(t, x, "P", "f/0 g/1", true)
	wants(t, x, "Q", "f/0 g/1 h/2", true)
	wants(t, x, "R", "f/0 g/1 h/2 i/3", true)
	methods(t, x, "A", "f/0 g/1")
	methods(t, x, "*A", "f/0 g/1 i/0")
	methods(t, x, "E", "i/3")
	methods(t, x, "F", "g/1 h/2 i/3")
	methods(t, x, "G", "g/1 h/2 i/3")
	lacks(t, x, "A", "P", "", false)
	lacks(t, x, "A", "Q", "h", true)
	lacks(t, x, "*A", "R", "h", true)
	lacks(t, x, "F", "R", "f", true)
	lacks(t, x, "E", "P", "f", true)
}

// A method with a pointer receiver is in the method set of a pointer, and where an embedded pointer is anywhere on the way.
func TestPointersOnTheWay(t *testing.T) {
	x := table(t, `
		type T struct { }
		func (t *T) p(a) { }
		func (t T) v(a, b) { }
		type V struct { .T }
		type P struct { .*T }
		type VV struct { .V }
		type PV struct { .*V }
		type VP struct { .P }
		type PP struct { .*P }
		type VPV struct { .PV }
		type VVV struct { .VV }
	`)
	finds(t, x, `
		T p nothing
		V p nothing
		*V p method 0 *T/1
		V v method 0 T/2
		P p method 0 *T/1
		P v method 0 T/2
		*P p method 0 *T/1
		VV p nothing
		*VV p method 0.0 *T/1
		PV p method 0.0 *T/1
		VP p method 0.0 *T/1
		*VP p method 0.0 *T/1
		PP p method 0.0 *T/1
		VPV p method 0.0.0 *T/1
		VVV p nothing
		VVV v method 0.0.0 T/2
		*VVV p method 0.0.0 *T/1
	`)
	find(t, x, "T", "v", "method  T/2")
	find(t, x, "*T", "v", "method  T/2")
	find(t, x, "*T", "p", "method  *T/1")
	methods(t, x, "V", "v/2")
	methods(t, x, "*V", "p/1 v/2")
	methods(t, x, "VP", "p/1 v/2")
	methods(t, x, "VVV", "v/2")
}

// Methods rise by the bytes of their names, Names and Protocols too.
func TestRising(t *testing.T) {
	x := table(t, "type b struct { .a }; type a struct { .*B; .P }; type B struct { }; type a_ = int; type a1 = int; type Z = int; type zz = int; protocol p { }; protocol P { ab(0); aB(1); a(2); a0(3); z(4); Z(5); q }; protocol q { a_(7); y(0) }; protocol f { }; func (x B) c() { }; func (x B) C() { }; func (x b) ac() { }; func (x *a) z1() { }")
	listed(t, x, "B Z a a1 a_ b fault zz", "P error f p q")
	wants(t, x, "P", "Z/5 a/2 a0/3 aB/1 a_/7 ab/0 y/0 z/4", true)
	methods(t, x, "b", "C/0 Z/5 a0/3 aB/1 a_/7 ab/0 ac/0 c/0 y/0 z/4")
	methods(t, x, "*b", "C/0 Z/5 a0/3 aB/1 a_/7 ab/0 ac/0 c/0 y/0 z/4 z1/0")
	find(t, x, "b", "a", "field 0")
}

// Lacks asks counts, too; the first is told by its name.
func TestLacks(t *testing.T) {
	x := table(t, "type A struct { x; .C }; func (a A) f() { }; func (a *A) g(u) { }; type C struct { }; func (c C) h(u, v) { }; type K = int; func (k K) f() { }; "+
		"protocol F { f(0) }; protocol F1 { f(1) }; protocol FG { g(1); f(0) }; protocol GF { g(2); f(0) }; protocol H { h(2); a(0); z(1) }; protocol HH { h(2) }; protocol X { x(0) }; protocol E { }; protocol All { FG; HH; E }")
	for _, c := range []struct {
		of, protocol, want string
		is                 bool
	}{
		{"A", "F", "", false}, {"*A", "F", "", false}, {"A", "F1", "f", true}, {"A", "FG", "g", true}, {"*A", "FG", "", false}, {"*A", "GF", "g", true},
		{"A", "H", "a", true}, {"A", "HH", "", false}, {"A", "X", "x", true}, {"A", "E", "", false}, {"K", "F", "", false}, {"*K", "F", "f", true},
		{"*K", "E", "", false}, {"K", "All", "g", true}, {"A", "All", "g", true}, {"*A", "All", "", false}, {"C", "All", "f", true}, {"int", "F", "f", true},
		{"int", "E", "", false}, {"nobody", "F", "f", true}, {"*nobody", "E", "", false}, {"F", "F", "f", true}, {"A", "error", "Error", true}, {"*A", "any", "", false},
	} {
		lacks(t, x, c.of, c.protocol, c.want, c.is)
	}
}

// The counts of methods: their parameters, without the receiver.
func TestCounts(t *testing.T) {
	x := table(t, "type T struct { }; func (r T) a() { }; func (r T) b(x) { }; func (r *T) c(x, y) { }; func (r T) l(a, b, c, d, e, f, g, h, i, j, k, l) { }; protocol P { a(0); z(12) }; type U struct { .P; .*T }")
	methods(t, x, "*T", "a/0 b/1 c/2 l/12")
	methods(t, x, "U", "b/1 c/2 l/12 z/12")
	wants(t, x, "P", "a/0 z/12", true)
}
