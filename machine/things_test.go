package machine_test

import (
	"testing"

	"guise/api"
)

// Of each code: how many things there are behind a Run with this fuel, how many Collect forgets, and how many are left.
func TestThings(t *testing.T) {
	table := tableOf(t, someTypes)
	for _, c := range []struct {
		what, code string
		fuel       int
		must       [3]int
	}{
		{"the program's variables, from the beginning on", "nil; return", 0, [3]int{2, 0, 2}},
		{"a slot's variable", "int '1'; store 0; step; nil; return", 0, [3]int{3, 0, 3}},
		{"a slot that nobody gave one", "load 0; pop; step; nil; return", 0, [3]int{2, 0, 2}},
		{"a slot that is given another one", "int '1'; fresh 0; int '1'; fresh 0; step; nil; return", 0, [3]int{4, 1, 3}},
		{"whose place lies on the stack", "placeslot 0; int '1'; fresh 0; step; nil; put; nil; return", 0, [3]int{4, 0, 4}},
		{"a slot that a literal takes", "literal 6; pop; step; nil; return", 0, [3]int{5, 1, 4}},
		{"a literal that has the variable alone", "literal 6; int '1'; fresh 0; step; pop; nil; return", 0, [3]int{6, 0, 6}},
		{"an object, an array, a map", "struct 0 'T'; object; list 0; map 0; step; pop; pop; pop; nil; return", 0, [3]int{5, 0, 5}},
		{"the same, that nobody has", "struct 0 'T'; object; pop; list 0; pop; map 0; pop; step; nil; return", 0, [3]int{5, 3, 2}},
		{"nil ones, texts and structs are none", "nilof 0 'list'; nilof 0 'map'; nilof 1 'T'; text 'a'; struct 0 'T'; step; pop; pop; pop; pop; pop; nil; return", 0, [3]int{2, 0, 2}},
		{"declared functions are none", "literal 5; step; pop; nil; return", 0, [3]int{2, 0, 2}},
		{"a bound method, and its receiver", "list 0; struct 1 'T x'; select 0 'm'; step; pop; nil; return", 0, [3]int{4, 0, 4}},
		{"one that is called at once", "struct 0 'T'; select 1 'm'; step; pop; nil; return", 0, [3]int{3, 0, 3}},
		{"an expression", "expression 0 'T m'; step; pop; nil; return", 0, [3]int{3, 0, 3}},
		{"a piece of an array keeps all of it", "list 0; int '1'; list 2; int '1'; int '2'; slice 2; step; pop; nil; return", 0, [3]int{4, 0, 4}},
		{"also an empty piece", "list 0; list 1; int '1'; slice 2 /2; step; pop; nil; return", 0, [3]int{4, 0, 4}},
		{"append anew", "list 0; int '1'; built 2 'append'; step; pop; nil; return", 0, [3]int{4, 1, 3}},
		{"append with room", "int '2'; built 1 'make'; int '0'; int '1'; slice 2; int '1'; built 2 'append'; step; pop; nil; return", 0, [3]int{3, 0, 3}},
		{"an element that append wrote over", "list 0; list 1; dup; int '0'; int '0'; slice 2; nil; built 2 'append'; pop; step; pop; nil; return", 0, [3]int{4, 1, 3}},
		{"a map's keys and values", "struct 0 'T'; object; list 0; map 1; step; pop; nil; return", 0, [3]int{5, 0, 5}},
		{"what was deleted", "int '1'; list 0; map 1; dup; int '1'; built 2 'delete'; pop; step; pop; nil; return", 0, [3]int{4, 1, 3}},
		{"what leads to itself", "list 0; list 1; dup; int '0'; placeindex; nil; put; dup; fresh 0; load 0; int '0'; placeindex; load 0; put; nil; fresh 0; step; pop; nil; return", 0, [3]int{6, 2, 4}},
		{"and nobody has it", "struct 0 'T'; object; fresh 0; load 0; placefield 'x'; load 0; put; nil; store 0; step; nil; return", 0, [3]int{4, 1, 3}},
		{"an object of which a part is meant", "struct 0 'E'; object; select 0 'set'; step; pop; nil; return", 0, [3]int{4, 0, 4}},
		{"a place of a field", "struct 0 'T'; object; placefield 'x'; step; nil; put; nil; return", 0, [3]int{3, 0, 3}},
		{"a place of an element", "list 0; list 1; int '0'; placeindex; step; nil; put; nil; return", 0, [3]int{4, 0, 4}},
		{"a place of a key, and the key", "map 0; struct 0 'T'; object; placeindex; step; nil; put; nil; return", 0, [3]int{4, 0, 4}},
		{"a place of what a pointer leads to", "struct 0 'T'; object; placeof; step; struct 0 'T'; put; nil; return", 0, [3]int{3, 0, 3}},
		{"a turn over a list", "list 0; list 1; turn; step; drop 1; nil; return", 0, [3]int{4, 0, 4}},
		{"a turn over a map has what there was", "int '1'; list 0; map 1; dup; turn; step; drop 1; pop; nil; return", 0, [3]int{4, 0, 4}},
		{"also what is there no more", "int '1'; list 0; map 1; fresh 0; load 0; turn; load 0; int '1'; built 2 'delete'; pop; nil; store 0; step; drop 1; nil; return", 0, [3]int{5, 0, 5}},
		{"a turn over a number", "int '5'; turn; step; drop 1; nil; return", 0, [3]int{2, 0, 2}},
		{"what was laid down", "literal 5; list 0; map 0; defer 2; map 0; deferbuilt 1 'print'; step; nil; return", 0, [3]int{5, 0, 5}},
		{"an answer, while something laid down waits", "literal 4; defer 0; list 0; return", 0, [3]int{3, 0, 3}},
		{"what lies below an answer", "literal 4; defer 0; map 0; list 0; return", 0, [3]int{4, 0, 4}},
		{"a panic, while something laid down waits", "literal 4; defer 0; map 0; list 0; built 1 'panic'; return", 0, [3]int{4, 1, 3}}, // the stack is gone
		{"an answer, behind which a call that was laid down had a fault", "literal 4; defer 0; nil; defer 0; list 0; return", 0, [3]int{4, 0, 4}},
		{"what lies below that answer is gone", "literal 4; defer 0; nil; defer 0; map 0; list 0; return", 0, [3]int{5, 1, 4}},
		{"what that answer leads to", "literal 4; defer 0; nil; deferbuilt 1 'panic'; list 0; struct 1 'T x'; object; map 0; map 1; list 1; return", 0, [3]int{8, 0, 8}},
		{"an answer, behind which a laid down built-in call panicked", "literal 4; defer 0; map 0; deferbuilt 1 'panic'; list 0; return", 0, [3]int{4, 0, 4}},
		{"an answer, behind a panic behind another one", "literal 4; defer 0; map 0; deferbuilt 1 'panic'; map 0; deferbuilt 1 'panic'; list 0; return", 0, [3]int{5, 1, 4}},
		{"a slot's variable, which is answered, and is another one then", "literal 4; defer 0; nil; defer 0; list 0; fresh 0; load 0; nil; fresh 0; return", 0, [3]int{6, 1, 5}},
		{"an answer that was recovered", "literal 4; defer 0; literal 4; defer 0; text 'x'; deferbuilt 1 'panic'; list 0; return", 1, [3]int{3, 1, 2}},
		{"a fault's object", "literal 4; defer 0; nil; unary '-'; return", 0, [3]int{3, 0, 3}},
		{"arguments that wait for their call", "literal 5; list 0; list 0; call 2; return", 0, [3]int{4, 0, 4}},
		{"parameters", "literal 1; list 0; struct 1 'T x'; call 1; return", 1, [3]int{4, 0, 4}},
		{"a function whose variables are its own no more", "list 0; fresh 0; literal 6; nil; fresh 0; call 0; step; return", 1, [3]int{8, 2, 6}},
		{"what the program's variables have", "list 0; list 1; storeglobal 1; step; nil; return", 0, [3]int{4, 0, 4}},
		{"of one that is over only these", "list 0; store 0; list 0; storeglobal 0; list 0; fresh 1; nil; return", 0, [3]int{7, 4, 3}},
		{"also by a panic", "list 0; store 0; list 0; storeglobal 0; nil; unary '-'; return", 0, [3]int{6, 3, 3}},
	} {
		p := with(begins(c.code), its...)
		m := made(t, p, table, 9)
		m.Run(c.fuel)
		if got := [3]int{m.Things(), m.Collect(), m.Things()}; got != c.must {
			t.Errorf("P16.3: %s: %v; must be %v\n%s", c.what, got, c.must, c.code)
		}
		if n := m.Collect(); n != 0 {
			t.Errorf("P16.8: %s: a second Collect forgets %d", c.what, n)
		}
		asModel(t, p, table, 9, c.fuel)
		asModel(t, p, table, 9, c.fuel, 1, 1, 1, 99)
	}
}

// Of a machine that has not begun.
func TestThingsAheadOfAll(t *testing.T) {
	p := begins("nil; return")
	for _, names := range [][]string{nil, {"a"}, {"a", "b", "c"}} {
		p.Globals = names
		m := made(t, p, noTypes(), 1)
		if m.Things() != len(names) || m.Collect() != 0 || m.Things() != len(names) || m.Over() {
			t.Errorf("P16.3: %d things of %d variables", m.Things(), len(names))
		}
	}
}

// Behind a Full, an Overflow, too, the program's variables are left.
func TestThingsOfEnds(t *testing.T) {
	for _, s := range []string{"var g = [1]\nfunc main() { l := [2]; main() }", "var g = [1]\nfunc main() { for { l := make(60000) } }", "var g = [1]\nfunc main() { panic([1]) }", "var g = [1]\nfunc main() { l := [3] }"} {
		m := ofText(t, s, 5)
		o, _ := m.Run(api.MaxFuel)
		was := m.Things()
		if n := m.Collect(); !m.Over() || m.Things() != 2 || was-n != 2 {
			t.Errorf("P16.3: %s of %s: %d things, %d forgotten, %d left", endNames[o.End], s, was, n, m.Things())
		}
	}
}

// What is forgotten takes no memory any more, though it was made: a loop that makes many things goes on.
func TestManyThings(t *testing.T) {
	m := ofText(t, "func f(a, b, c, d, e) { return a }\nfunc main() { for { f(1, 2, 3, 4, 5) } }", 5)
	for i := range 3 {
		o, err := m.Run(api.MaxFuel)
		if o.End != api.Spent || err != nil || o.Steps != (i+1)*api.MaxFuel {
			t.Fatal("P16.2:", ended(o, err))
		}
	}
	if n := m.Things(); n < 3*api.MaxFuel {
		t.Errorf("P16.3: %d things were made", n)
	}
	if m.Collect(); m.Things() > 10 {
		t.Errorf("P16.3: %d things are left", m.Things())
	}
}
