package types_test

import (
	"testing"

	"guise/api"
)

// The first group: names of types and protocols.
func TestWrongNames(t *testing.T) {
	allWrong(t, api.ErrTwice, `
		~type int = int
		~type bool struct { }
		~protocol float { }
		~type text = list
		~type list = list
		~type fault struct { word; more }
		~type error struct { }
		~protocol error { Error(0) }
		~protocol fault { }
		type T = int; ~type T = int
		type T = int; ~type T struct { }
		type T struct { }; ~type T = list
		type T struct { }; ~type T struct { }
		type T struct { }; ~protocol T { }
		protocol T { }; ~type T struct { }
		protocol T { }; ~protocol T { }
		protocol T { }; type U = int; ~type T = float
		type T = int; ~type T = int; type T = int
		type T = int; ~type T = Nobody
		type T = int; ~type T struct { x; x }
	`)
	allFine(t, `
		type Int = int
		type bools struct { }
		protocol errors { Error(0) }
		type T = int; func T() { }
		type T = int; var T = 1
		func T() { }; type T struct { }; func T() { }
		var T = 1; var T = 2; protocol T { }
		func int() { }; var fault = 1
		type t = int; type T = int
		type print = func; type len struct { }; protocol main { }
	`)
}

// The kind of an NType is told at its Kid.
func TestWrongKinds(t *testing.T) {
	allWrong(t, api.ErrType, `
		type T = ~T;
		type T = ~fault;
		type T = ~error;
		type T = ~Nobody;
		type T = int; type U = ~T;
		type U = ~T; type T = int
		type S struct { }; type U = ~S;
		type U = ~S; type S struct { }
		protocol P { }; type U = ~P;
		type T = int; type U = ~U; type V = V
	`)
	for i, kind := range []string{"bool", "int", "float", "text", "list", "map", "func"} {
		x := table(t, "type T = "+kind+"; func (a T) f(b) { }")
		if got, is := x.Under("T"); got != api.KBool+i || !is {
			t.Errorf("Y2: Under of %s: %d %v", kind, got, is)
		}
		methods(t, x, "T", "f/1")
		methods(t, x, "*T", "")
		listed(t, x, "T fault", "error")
	}
	n := program(node(api.NType, "T", api.Node{Kind: api.NName, Text: "Nobody", At: -8}))
	if got := made(t, n); got != wrongTold(api.ErrType, -8, "Nobody") {
		t.Error(got)
	}
}

// The second group: fields of struct types.
func TestWrongFields(t *testing.T) {
	allWrong(t, api.ErrTwice, `
		type T struct { x; ~x }
		type T struct { x; y; z; ~y }
		type S struct { }; type T struct { S; ~.S }
		type S struct { }; type T struct { .S; ~S }
		type S struct { }; type T struct { .S; ~.S }
		type S struct { }; type T struct { .S; ~.*S }
		type S struct { }; type T struct { .*S; ~.S }
		type S struct { }; type T struct { .*S; ~.*S }
		protocol P { }; type T struct { .P; ~.P }
		protocol P { }; type T struct { P; ~.*P }
		type T struct { Nobody; ~.Nobody }
		type T struct { int; ~.int }
		type T struct { int; ~.*int }
		type T struct { x; ~x; x; y; y }
		type T struct { fault; ~.fault }
		type T struct { T; ~.T }
	`)
	allWrong(t, api.ErrUnknown, `
		type T struct { ~.Nobody }
		type T struct { ~.*Nobody }
		type T struct { x; ~.Nobody; .Nobody }
		type T struct { ~.x; x }
		type T struct { ~.*t }
		type T struct { ~.f }; func f() { }
		type T struct { ~.v }; var v = 1
		type T struct { ~.m }; func (r T) m() { }
		type T struct { ~.m }; protocol P { m(0) }
		type T struct { ~.print }
		type T struct { ~.struct1 }
	`)
	allWrong(t, api.ErrType, `
		type T struct { ~.int }
		type T struct { ~.bool }
		type T struct { ~.float }
		type T struct { ~.text }
		type T struct { ~.list }
		type T struct { ~.*list }
		type T struct { ~.*error }
		type K = list; type T struct { ~.K }
		type K = list; type T struct { ~.*K }
		type T struct { ~.K }; type K = int
		protocol P { }; type T struct { ~.*P }
		type T struct { ~.*P }; protocol P { }
	`)
	allFine(t, `
		type T struct { x; X; x1; xx }
		type T struct { }
		type T struct { T; int; error; fault; print; main }
		type T struct { .S; .*U; .P; .fault; .error; x }; type S struct { }; type U struct { }; protocol P { }
		type T struct { .*T }
		type T struct { .*fault }
		type T struct { x }; type U struct { x }
		type T struct { .S }; type S struct { T }
	`)
}

// The second group: parts of protocols.
func TestWrongPartsOfProtocols(t *testing.T) {
	allWrong(t, api.ErrTwice, `
		protocol P { f(0); ~f(0) }
		protocol P { f(0); ~f(1) }
		protocol P { f(0); g(0); h(0); ~g(2); h(1) }
		protocol P { f(0); Q; ~f(0) }; protocol Q { f(0) }
		protocol P { error; Error(0); ~Error(0) }
	`)
	allWrong(t, api.ErrUnknown, `
		protocol P { ~Nobody }
		protocol P { f(0); ~Nobody; f(0) }
		protocol P { ~f; f(0) }
		protocol P { ~p }
		protocol P { error; ~Nobody }
		protocol P { ~f }; func f() { }
	`)
	allWrong(t, api.ErrType, `
		protocol P { ~int }
		protocol P { ~fault }
		protocol P { ~list }
		protocol P { ~S }; type S struct { }
		type K = func; protocol P { ~K }
		protocol P { Q; ~S; Q }; type S struct { }; protocol Q { }
	`)
	allFine(t, `
		protocol P { }
		protocol P { f(0); F(0); g(12) }
		protocol P { Q; Q }; protocol Q { f(0) }
		protocol P { error; error; error }
		protocol P { Q(0); Q }; protocol Q { f(1) }
		protocol P { P(0) }
		protocol P { f(0); Q }; protocol Q { f(0) }
		protocol P { int(0); fault(1); error(2) }
	`)
}

// The second group: methods of types.
func TestWrongMethods(t *testing.T) {
	allWrong(t, api.ErrReceiver, `
		func (r ~int) f() { }
		func (r *~int) f() { }
		func (r ~fault) f() { }
		func (r *~fault) f() { }
		func (r ~error) f() { }
		func (r *~error) f() { }
		func (r ~list) f() { }
		func (r ~Nobody) f() { }
		func (r *~Nobody) f() { }
		func (r ~f) f() { }
		func (r ~g) f() { }; func g() { }
		func (r ~v) f() { }; var v = 1
		func (r ~P) f() { }; protocol P { }
		func (r *~P) f() { }; protocol P { f(0) }
		type K = list; func (r *~K) f() { }
		func (r *~K) f() { }; type K = func
		type T struct { x }; func (r ~t) x() { }
		func (r ~fault) Error() { }
	`)
	allWrong(t, api.ErrTwice, `
		type T struct { }; func (r T) f() { }; ~func (r T) f() { }
		type T struct { }; func (r T) f() { }; ~func (r *T) f() { }
		type T struct { }; func (r *T) f() { }; ~func (r T) f() { }
		type T struct { }; func (r *T) f() { }; ~func (r *T) f(a) { }
		func (r T) f() { }; ~func (r T) f() { }; type T struct { }
		type K = int; func (r K) f() { }; ~func (q K) f(a) { }
		type T struct { x }; ~func (r T) x() { }
		type T struct { x }; ~func (r *T) x() { }
		~func (r T) x() { }; type T struct { y; x }
		~func (r T) S() { }; type T struct { .S }; type S struct { }
		~func (r T) S() { }; type T struct { .*S }; type S struct { }
		~func (r T) P() { }; type T struct { .P }; protocol P { }
		~func (r T) T() { }; type T struct { .*T }
		type T struct { }; func (r T) f() { }; func (r T) g() { }; ~func (r T) f() { }; func (r T) g() { }
	`)
	allFine(t, `
		type T struct { }; func (r T) f() { }; func (r T) g() { }
		type T struct { }; type U struct { }; func (r T) f() { }; func (r U) f() { }; func (r *T) g() { }; func (r *U) g() { }
		type T struct { x }; func (r T) X() { }
		type T struct { x }; func (r T) r() { }
		func (r *T) f() { }; type T struct { }
		func (r K) f(a, b) { }; type K = map
		type T struct { }; func (r T) T() { }
		type T struct { }; func f() { }; func (r T) f() { }
		type T struct { .S }; type S struct { x }; func (r T) x() { }
		type T struct { .S }; type S struct { }; func (r S) f() { }; func (r T) f() { }
		type T struct { .P }; protocol P { f(0) }; func (r T) f(a) { }
		type T struct { }; func (r T) Error() { }; func (r T) int() { }
	`)
}

// The third group: what leads to itself.
func TestWrongCycles(t *testing.T) {
	allWrong(t, api.ErrCycle, `
		~type T struct { .T }
		~type T struct { x; .T }
		~type T struct { .U }; type U struct { .T }
		~type U struct { .T }; type T struct { .U }
		~type A struct { .B }; type B struct { .C }; type C struct { .A }
		type T struct { .U }; ~type U struct { .U }
		type T struct { .U }; ~type U struct { .V }; type V struct { .U }
		type T struct { .*T; .U }; ~type U struct { x; .V }; type V struct { .*T; .U }
		~type A struct { .B; .C }; type B struct { }; type C struct { .D }; type D struct { .B; .A }
		func T() { }; ~type T struct { .T }
		var T = 1; type K = int; ~type T struct { .T }
		~protocol P { P }
		~protocol P { f(0); P }
		~protocol P { Q }; protocol Q { P }
		protocol P { Q }; ~protocol Q { R }; protocol R { Q }
		~protocol P { Q; R }; protocol Q { error }; protocol R { S }; protocol S { Q; P }
		type T struct { .P }; ~protocol P { P }
		~type T struct { .T }; protocol P { P }
		~protocol P { P }; type T struct { .T }
		type K = int; func (r K) T() { }; ~type T struct { .U }; type U struct { .T }
	`)
	allFine(t, `
		type T struct { .*T }
		type T struct { .U }; type U struct { .*T }
		type T struct { .*U }; type U struct { .*T }
		type T struct { .*U }; type U struct { .T }
		type T struct { T }
		type T struct { .U; .V }; type U struct { .W }; type V struct { .W }; type W struct { }
		protocol P { Q; R }; protocol Q { S }; protocol R { S }; protocol S { f(0) }
		protocol P { P(0) }
		type T struct { .P }; protocol P { T(0) }
	`)
}

// The fourth group: the methods of protocols, together.
func TestWrongSums(t *testing.T) {
	for _, c := range []struct{ s, name string }{
		{"~protocol P { f(0); Q }; protocol Q { f(1) }", "f"},
		{"~protocol P { Q; f(0) }; protocol Q { f(1) }", "f"},
		{"protocol Q { f(1) }; ~protocol P { Q; f(0) }", "f"},
		{"~protocol P { Q; R }; protocol Q { f(1) }; protocol R { f(2) }", "f"},
		{"~protocol P { Q; R }; protocol Q { f(1) }; protocol R { S }; protocol S { f(2) }", "f"},
		{"~protocol P { f(0); Q }; protocol Q { R }; protocol R { S }; protocol S { f(1) }", "f"},
		{"~protocol P { Error(1); error }", "Error"},
		{"~protocol P { g(0); f(0); h(0); Q }; protocol Q { h(1); g(1); f(0) }", "g"},
		{"~protocol P { b(0); a(0); B(0); Q }; protocol Q { a(1); B(1); b(1) }", "B"},
		{"~protocol P { z(0); Q; R }; protocol Q { z(1); a(0) }; protocol R { a(1) }", "a"},
		// What embeds one in which there are two has them, too; whichever is declared first is told.
		{"~protocol P { Q }; protocol Q { f(0); R }; protocol R { f(1) }", "f"},
		{"protocol R { f(1) }; ~protocol Q { f(0); R }; protocol P { Q }", "f"},
		{"~protocol P { Q; a(0); S }; protocol Q { f(0); R }; protocol R { f(1) }; protocol S { a(1) }", "a"},
		{"~protocol P { Q; R }; protocol Q { f(0) }; protocol R { S; f(0) }; protocol S { f(3) }", "f"},
		{"~protocol P { Q; R; S }; protocol Q { f(0) }; protocol R { f(1) }; protocol S { f(0) }", "f"},
	} {
		wrong(t, c.s, api.ErrTwice, c.name)
	}
	allFine(t, `
		protocol P { f(0); Q }; protocol Q { f(0) }
		protocol P { f(3); Q; R }; protocol Q { f(3); g(1) }; protocol R { S; g(1) }; protocol S { f(3) }
		protocol P { Error(0); error }
		protocol P { f(0) }; protocol Q { f(1) }
		type T struct { .P; .Q }; protocol P { f(0) }; protocol Q { f(1) }
		protocol P { f(0); Q }; protocol Q { F(1) }
	`)
}
