package types_test

import (
	"testing"

	"guise/api"
	"guise/types"
)

const examples = "type A struct { x }; func (a A) f() {}; func (a *A) g(u) {}; type B struct { .A; .*C }; type C struct { x; y }; func (c *C) h() {}; type D struct { .B; f }; protocol P { f(0); g(1) }; type E struct { .P }; type K = list; func (k K) n() {}"

// The examples at the chapter's end.
func TestExamples(t *testing.T) {
	x := table(t, examples)
	finds(t, x, `
		B f method 0 A/0
		B g nothing
		*B g method 0 *A/1
		B x twice
		B y field 1.1
		B h method 1 *C/0
		B A field 0
		D f field 1
		D g nothing
		D h method 0.1 *C/0
		E f protocol 0 P/0
		K len nothing
		*K n nothing
		int n nothing
	`)
	find(t, x, "K", "n", "method  K/0")
	methods(t, x, "A", "f/0")
	methods(t, x, "*A", "f/0 g/1")
	methods(t, x, "B", "f/0 h/0")
	methods(t, x, "*D", "g/1 h/0")
	methods(t, x, "E", "f/0 g/1")
	lacks(t, x, "A", "P", "g", true)
	lacks(t, x, "*A", "P", "", false)
	lacks(t, x, "E", "P", "", false)
	lacks(t, x, "D", "any", "", false)
	lacks(t, x, "A", "nobody", "", true)
	shape(t, x, "B", "8 A/1 C/2 = B{A{nil} *C}")
	if zero, _ := x.Zero("B"); size(zero) != 4 {
		t.Errorf("Y2: %v", zero)
	}
	wrong(t, "~type T struct { .T }", api.ErrCycle, "T")
	fine(t, "type T struct { .*T }")
	wrong(t, "type T = ~T", api.ErrType, "T")
	wrong(t, "~type int = int", api.ErrTwice, "int")
	wrong(t, "func (i ~int) f() {}", api.ErrReceiver, "int")
	wrong(t, examples+"; func (k *~K) n() {}", api.ErrReceiver, "K")
	wrong(t, examples+"; ~func (a A) x() {}", api.ErrTwice, "x")
}

func TestExamplesFurther(t *testing.T) {
	x := table(t, examples)
	listed(t, x, "A B C D E K fault", "P error")
	shape(t, x, "A", "8 x/0 = A{nil}")
	shape(t, x, "C", "8 x/0 y/0 = C{nil nil}")
	shape(t, x, "D", "8 B/1 f/0 = D{B{A{nil} *C} nil}")
	shape(t, x, "E", "8 P/3 = E{nil}")
	shape(t, x, "K", "5")
	shape(t, x, "P", "0")
	wants(t, x, "P", "f/0 g/1", true)
	methods(t, x, "*B", "f/0 g/1 h/0")
	methods(t, x, "*E", "f/0 g/1")
	methods(t, x, "D", "h/0")
	methods(t, x, "C", "")
	methods(t, x, "*C", "h/0")
	methods(t, x, "K", "n/0")
	methods(t, x, "*K", "")
}

func TestHowFieldsStand(t *testing.T) {
	for i, kind := range []int{types.Plain, types.EmbedValue, types.EmbedPointer, types.EmbedProtocol} {
		if kind != i {
			t.Errorf("the %dth is %d", i, kind)
		}
	}
}

// begun are programs that declare nothing of what is there from the beginning.
var begun = []string{"", "func main() { }", "var x = 1", examples}

// What is there from the beginning is there in every program.
func TestTheBeginning(t *testing.T) {
	for _, s := range begun {
		x := table(t, s)
		for i, kind := range []string{"bool", "int", "float", "text", "list", "map", "func"} {
			if got, is := x.Under(kind); got != api.KBool+i || !is {
				t.Errorf("Y2: Under %s: %d %v", kind, got, is)
			}
			shape(t, x, kind, shapeTold(t, table(t, ""), kind))
			methods(t, x, kind, "")
			methods(t, x, "*"+kind, "")
			find(t, x, kind, "Error", "nothing")
			find(t, x, "*"+kind, "Error", "nothing")
			wants(t, x, kind, "", false)
			lacks(t, x, kind, "error", "Error", true)
			lacks(t, x, kind, "any", "", false)
		}
		shape(t, x, "fault", "8 word/0 more/0 = fault{nil nil}")
		finds(t, x, `
			fault word field 0
			fault more field 1
			*fault more field 1
			fault Error nothing
			fault fault nothing
			fault error nothing
			error Error nothing
			*error Error nothing
			any Error nothing
		`)
		find(t, x, "*fault", "Error", "method  *fault/0")
		methods(t, x, "fault", "")
		methods(t, x, "*fault", "Error/0")
		methods(t, x, "error", "")
		methods(t, x, "any", "")
		wants(t, x, "error", "Error/0", true)
		wants(t, x, "any", "", true)
		lacks(t, x, "fault", "error", "Error", true)
		lacks(t, x, "*fault", "error", "", false)
		lacks(t, x, "*fault", "any", "", false)
		lacks(t, x, "*fault", "fault", "", true)
		shape(t, x, "error", "0")
		shape(t, x, "any", "0")
	}
	listed(t, table(t, ""), "fault", "error")
}

// What is there from the beginning can be embedded, and be looked for there.
func TestTheBeginningWithin(t *testing.T) {
	x := table(t, "type T struct { .fault }; type U struct { .*fault; a }; type V struct { .error }; protocol P { error; f(1) }; type W struct { .T; .P }")
	shape(t, x, "T", "8 fault/1 = T{fault{nil nil}}")
	shape(t, x, "U", "8 fault/2 a/0 = U{*fault nil}")
	shape(t, x, "V", "8 error/3 = V{nil}")
	finds(t, x, `
		T word field 0.0
		U more field 0.1
		T Error nothing
		*T Error method 0 *fault/0
		U Error method 0 *fault/0
		*U Error method 0 *fault/0
		V Error protocol 0 error/0
		V error field 0
		W Error protocol 1 P/0
		W word field 0.0.0
	`)
	wants(t, x, "P", "Error/0 f/1", true)
	lacks(t, x, "T", "error", "Error", true)
	lacks(t, x, "*T", "error", "", false)
	lacks(t, x, "U", "error", "", false)
	lacks(t, x, "V", "error", "", false)
	lacks(t, x, "V", "P", "f", true)
	lacks(t, x, "W", "P", "", false)
	listed(t, x, "T U V W fault", "P error")
}

// Names that are none.
func TestNamesThatAreNone(t *testing.T) {
	x := table(t, examples)
	for _, s := range []string{"", "nobody", "Z", "a", "x", "f", "A ", "*A", "nil", "struct", "pointer", "_", "A\x00", "\xff"} {
		shape(t, x, s, "0")
		if one, two := foundTold(t, x.Find(s, false, "f")), foundTold(t, x.Find(s, true, "f")); one != "nothing" || two != "nothing" {
			t.Errorf("Y3: Find %q f: %s, %s", s, one, two)
		}
		if list := append(x.Methods(s, false), x.Methods(s, true)...); len(list) > 0 {
			t.Errorf("Y4: Methods %s: %v", s, list)
		}
		wants(t, x, s, "", false)
		lacks(t, x, "A", s, "", true)
		lacks(t, x, "nobody", s, "", true)
		for _, of := range []bool{false, true} {
			if what, is := x.Lacks(s, of, "P"); what != "f" || !is {
				t.Errorf("Y4: Lacks %s P: %s %v", s, what, is)
			}
			if what, is := x.Lacks(s, of, "any"); what != "" || is {
				t.Errorf("Y4: Lacks %s any: %s %v", s, what, is)
			}
		}
	}
	for _, s := range []string{"", "nobody", "X", "xx", "x ", "\xff", "0"} {
		for _, of := range []string{"A", "*A", "B", "*B", "E", "K", "fault"} {
			find(t, x, of, s, "nothing")
		}
	}
	// A protocol is no type, and a type no protocol.
	find(t, x, "P", "f", "nothing")
	find(t, x, "*P", "f", "nothing")
	methods(t, x, "P", "")
	wants(t, x, "A", "", false)
	lacks(t, x, "A", "A", "", true)
	lacks(t, x, "P", "P", "f", true)
}
