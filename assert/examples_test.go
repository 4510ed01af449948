package assert_test

import "testing"

// of chapter 5, with a method Error of K.
const examples = "type A struct { x }; func (a A) f() {}; func (a *A) g(u) {}; type B struct { .A; .*C }; type C struct { x; y }; func (c *C) h() {}; " +
	"type D struct { .B; f }; protocol P { f(0); g(1) }; type E struct { .P }; type K = list; func (k K) n() {}; func (k K) Error() {}"

func TestExampleHolds(t *testing.T) {
	x := table(t, examples)
	holding(t, x, integer(5), "int any", "error")
	holding(t, x, none, "", "any")
	holding(t, x, typed(5, "K"), "error any", "list")
	holding(t, x, nilOf("A"), "*A P", "A")
	holding(t, x, zero(t, x, "A"), "", "P")
}

func TestExampleMust(t *testing.T) {
	x := table(t, examples)
	wantMust(t, x, text("a"), "int", "text is not int")
	wantMust(t, x, none, "P", "nil is not P")
	wantMust(t, x, zero(t, x, "A"), "P", "A is not P: no g")
	wantMust(t, x, nilOf("A"), "A", "*A is not A")
	wantMust(t, x, integer(5), "*A", "int is not *A")
}

func TestExampleChoose(t *testing.T) {
	x := table(t, examples)
	wantChoose(t, x, none, "int | nil | any", 1)
	wantChoose(t, x, integer(5), "text, float | any | int", 1)
	wantChoose(t, x, integer(5), "", -1)
}

func TestExampleSelect(t *testing.T) {
	x := table(t, examples)
	b := zero(t, x, "B")
	wantSelect(t, x, none, "x", "nil|field x")
	wantSelect(t, x, integer(5), "x", "missing|x of int")
	wantSelect(t, x, b, "x", "missing|x of B twice")
	wantSelect(t, x, b, "g", "missing|g of B")
	wantSelect(t, x, nilOf("A"), "x", "nil|field x")
	wantSelect(t, x, nilOf("A"), "f", "nil|method f")
	wantSelect(t, x, nilOf("A"), "g", "method  *A/1")
	wantSelect(t, x, b, "y", "nil|field y")
	wantSelect(t, x, b, "h", "method 1 *C/0")
	wantSelect(t, x, zero(t, x, "E"), "f", "nil|method f")
	wantSelect(t, x, b, "f", "method 0 A/0")
}

// Of the whole: a pointer to none is no nil, and an embedded one gives its methods.
func TestExampleOfTheWhole(t *testing.T) {
	x := table(t, "protocol Sound { say(0) }; type Dog struct { name }; func (d Dog) say() { return d.name }; type Pup struct { .*Dog }; type P struct { x }; func (p *P) get() { return 1 }")
	pup := zero(t, x, "Pup")
	wantMust(t, x, pup, "Sound", "yes")
	wantSelect(t, x, pup, "say", "nil|method say")
	wantSelect(t, x, with(pup, pointer("Dog", 3), 0), "say", "method 0 Dog/0")
	wantSelect(t, x, nilOf("P"), "get", "method  *P/0")
	wantMust(t, x, text("a"), "int", "text is not int")
}
