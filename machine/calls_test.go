package machine_test

import (
	"fmt"
	"strings"
	"testing"

	"guise/api"
	"guise/code"
	"guise/types"
)

// told is all events of a run, each in a word: its Kind, its At and its Text.
func events(t testing.TB, p code.Program, table *types.Table, depth int, pieces ...int) string {
	t.Helper()
	var out []string
	m := made(t, p, table, depth)
	m.Watch(func(e api.Event) {
		word := fmt.Sprintf("%d@%d", e.Kind, e.At)
		if e.Text != "" {
			word += ":" + e.Text
		}
		out = append(out, word)
	})
	for _, fuel := range pieces {
		m.Run(fuel)
	}
	return strings.Join(out, " ")
}

func TestCalls(t *testing.T) {
	ask(t, tableOf(t, someTypes), []asked{
		{"literal 5; int '1'; int '2'; call 2", "[2, 1] list"},
		{"literal 5; call 0", "! arguments 0 for 2"},
		{"literal 5; nil; nil; nil; call 3", "! arguments 3 for 2"},
		{"struct 0 'T'; select 1 'm'; nil; call 1", "! arguments 1 for 0"}, // of a bound method without its receiver
		{"nil; call 0", "! nil call"},
		{"nil; list 0; call 1", "! nil call"},
		{"nilof 0 'func'; call 0", "! nil call"},
		{"nilof 0 'F'; call 0", "! nil call"},
		{"int '5'; call 0", "! operand () int"},
		{"nilof 1 'T'; nil; call 1", "! operand () *T"},
		{"struct 0 'T'; call 0", "! operand () T"},
	})
}

// What a call is counted for, and where it is told.
func TestStepsOfCalls(t *testing.T) {
	table := tableOf(t, someTypes)
	for _, c := range []struct {
		code  string
		steps int
		told  string
	}{
		{"nil; call 0 @4; return", 0, "5@0:&fault{word: \"nil\", more: \"call\"}"},
		{"int '1'; call 0 @4; return", 0, "5@0:&fault{word: \"operand\", more: \"() int\"}"},
		{"literal 5; call 0 @4; return", 1, "2@4:two 5@0:&fault{word: \"arguments\", more: \"0 for 2\"}"},
		{"step @9; literal 5; call 0 @4; return", 2, "1@9 2@4:two 5@9:&fault{word: \"arguments\", more: \"0 for 2\"}"},
		{"struct 0 'T'; select 1 'm'; call 0 @4; return", 2, "2@4:T.m 1@101 3@4:T.m"},
		{"expression 0 'V m'; int '1'; convert 2 'K'; struct 1 'V P'; call 1 @4; return", 1, "2@4:P.m 3@4:P.m"},
		{"expression 1 'E m'; struct 0 'E'; object; call 1 @4; return", 2, "2@4:T.m 1@101 3@4:T.m"},
		{"expression 0 'T m'; nil; call 1 @4; return", 1, "2@4:T.m 5@0:&fault{word: \"conversion\", more: \"nil is not T\"}"},
		{"struct 0 'fault'; object; select 1 'Error'; call 0 @4; return", 1, "2@4:fault.Error 3@4:fault.Error"},
		{"step @9; nilof 1 'fault'; select 1 'Error'; call 0 @4; return", 2, "1@9 2@4:fault.Error 5@9:&fault{word: \"nil\", more: \"field word\"}"},
		{"literal 6; call 0 @4; return", 1, "2@4:func 3@4:func"},
		{"text 'a'; built 1 'print'; step @3; built 1 'print'; return", 1, "7@0:a 1@3 7@3:nil"},
		{"step @3; literal 4; defer 0 @8; text 'x'; built 1 'panic'; return", 2, "1@3 4@8 5@3:\"x\" 2@8:caught 6@0:\"x\" 7@0:x 3@8:caught"},
		{"step @3; text 'p'; deferbuilt 1 @8 'print'; step @5; nil; return", 2, "1@3 4@8 1@5 7@5:p"},
		{"step @3; nil; defer 0 @8; nil; return", 1, "1@3 4@8 5@3:&fault{word: \"nil\", more: \"call\"}"},
		{"step @3; literal 5; defer 0 @8; nil; return", 2, "1@3 4@8 2@8:two 5@3:&fault{word: \"arguments\", more: \"0 for 2\"}"},
		{"step @3; int '1'; defer 0 @8; nil; return", 1, "1@3 5@3:&fault{word: \"operand\", more: \"() int\"}"},
	} {
		p := with(begins(c.code), its...)
		is(t, "P16.2: "+c.code, events(t, p, table, 5, 50), c.told)
		if o, _ := made(t, p, table, 5).Run(50); o.Steps != c.steps {
			t.Errorf("P16.2: %s: %d steps; must be %d", c.code, o.Steps, c.steps)
		}
		asModel(t, p, table, 5, 50)
		for fuel := range 4 {
			asModel(t, p, table, 1, fuel, 1, 1, 1, 1, 1)
		}
	}
}

// Nobody who watches any more; and who watches from then on.
func TestWatch(t *testing.T) {
	p := begins("step @1; step @2; step @3; step @4; nil; return")
	m := made(t, p, noTypes(), 1)
	var first, second string
	add := func(to *string) func(api.Event) {
		return func(e api.Event) { *to += fmt.Sprint(e.At) }
	}
	m.Watch(nil)
	m.Run(1)
	m.Watch(add(&first))
	m.Run(1)
	m.Watch(add(&second))
	m.Run(1)
	m.Watch(nil)
	m.Run(1)
	if first != "2" || second != "3" {
		t.Errorf("P16.2: told were %q and %q", first, second)
	}
}

// A program of functions that call one another, panic and recover: what comes of it.
func TestEnds(t *testing.T) {
	table := tableOf(t, someTypes)
	for _, c := range []struct {
		what, code, must string
		funcs            []string
	}{
		{"what was laid down is done in turn, the last one first", "text 'a'; deferbuilt 1 'print'; text 'b'; deferbuilt 1 'print'; nil; return", "done 0 | b | a", nil},
		{"also behind a fault", "text 'a'; deferbuilt 1 'print'; nil; unary '-'; return", "panic 0 | a ! operand - nil", nil},
		{"a panic in a laid down call is the one that is told", "literal 7; defer 0; text 'x'; built 1 'panic'; return", `panic 1 ! "y"`, []string{"p 0 0 -1::text 'y'; built 1 'panic'; return"}},
		{"the others are done yet", "text 'a'; deferbuilt 1 'print'; text 'y'; deferbuilt 1 'panic'; text 'b'; deferbuilt 1 'print'; nil; return", `panic 0 | b | a ! "y"`, nil},
		{"recover answers the last panic", "literal 4; defer 0; text 'y'; deferbuilt 1 'panic'; text 'x'; built 1 'panic'; return", "done 1 | y", nil},
		{"the answer of what recovered is nil", "literal 7; call 0; built 1 'print'; return", "done 2 | x | nil", []string{"f 0 0 -1::literal 4; defer 0; int '1'; pop; text 'x'; built 1 'panic'; return"}},
		{"also of what had answered", "literal 7; call 0; built 1 'print'; return", "done 2 | x | nil", []string{"f 0 0 -1::literal 4; defer 0; text 'x'; deferbuilt 1 'panic'; int '5'; return"}},
		{"also of what panics and recovers again", "literal 7; call 0; built 1 'print'; return", "done 3 | x | y | nil", []string{"f 0 0 -1::literal 4; defer 0; text 'y'; deferbuilt 1 'panic'; literal 4; defer 0; text 'x'; deferbuilt 1 'panic'; int '5'; return"}},
		{"also of what a laid down call's panic came to", "literal 7; call 0; built 1 'print'; return", "done 3 | x | nil", []string{"f 0 0 -1::literal 4; defer 0; literal 8; defer 0; int '5'; return", "p 0 0 -1::text 'x'; built 1 'panic'; return"}},
		{"what is not recovered answers nothing", "literal 7; call 0; built 1 'print'; return", `panic 1 ! "x"`, []string{"f 0 0 -1::text 'x'; deferbuilt 1 'panic'; int '5'; return"}},
		{"the answer of what did not panic stays", "literal 7; call 0; built 1 'print'; return", "done 2 | nil | 5", []string{"f 0 0 -1::literal 4; defer 0; int '5'; return"}},
		{"recover twice", "literal 7; defer 0; text 'x'; built 1 'panic'; return", `done 1 | ["x", nil]`, []string{"f 0 0 -1::built 0 'recover'; built 0 'recover'; list 2; built 1 'print'; return"}},
		{"recover in a function that a laid down one calls answers nothing", "literal 7; defer 0; text 'x'; built 1 'panic'; return", `panic 2 | nil ! "x"`, []string{"f 0 0 -1::literal 4; call 0; return"}},
		{"recover that is laid down answers nothing", "deferbuilt 0 'recover'; text 'x'; built 1 'panic'; return", `panic 0 ! "x"`, nil},
		{"recover that is laid down with too much", "nil; deferbuilt 1 'recover'; nil; return", "panic 0 ! arguments 1 for 0", nil},
		{"recover in a laid down function that is laid down by one", "literal 7; defer 0; text 'x'; built 1 'panic'; return", `panic 2 | nil ! "x"`, []string{"f 0 0 -1::literal 4; defer 0; nil; return"}},
		{"a panic goes through calls", "literal 7; call 0; return", `panic 2 | a ! "x"`, []string{"f 0 0 -1::text 'a'; deferbuilt 1 'print'; literal 8; call 0; return", "g 0 0 -1::text 'x'; built 1 'panic'; return"}},
		{"and is caught further out", "literal 7; call 0; built 1 'print'; return", "done 3 | x | nil", []string{"f 0 0 -1::literal 4; defer 0; literal 8; call 0; return", "g 0 0 -1::text 'x'; built 1 'panic'; return"}},
		{"a bound method that is laid down recovers", "literal 7; call 0; return", "done 4 | x", []string{"f 0 0 -1::struct 0 'T'; select 1 'm'; defer 0; literal 8; defer 0; text 'x'; built 1 'panic'; return", "g 0 0 -1::built 0 'recover'; built 1 'print'; return"}},
		{"the beginning may be recovered", "literal 4; defer 0; nil; unary '-'; return", `done 1 | &fault{word: "operand", more: "- nil"}`, nil},
		{"what is thrown again", "literal 7; defer 0; text 'x'; built 1 'panic'; return", `panic 1 ! ["x"]`, []string{"f 0 0 -1::built 0 'recover'; list 1; built 1 'panic'; return"}},
		{"something lies on the stack below", "int '1'; placeslot 0; int '3'; turn; literal 7; call 0; return", "done 1", []string{"f 0 1 -1::int '1'; int '2'; placeslot 0; nil; return"}},
	} {
		p := with(begins(c.code), append(append([]string(nil), its...), c.funcs...)...)
		is(t, "P16: "+c.what, ended(made(t, p, table, 9).Run(99)), c.must)
		asModel(t, p, table, 9, 99)
		asModel(t, p, table, 9, 1, 0, 1, 1, 1, 1, 1, 1)
		for depth := 1; depth < 4; depth++ {
			asModel(t, p, table, depth, 99)
		}
	}
}

// Overflow: as many calls as the depth are being run, those of defers, methods and faults, too; its step is counted.
func TestOverflow(t *testing.T) {
	table := tableOf(t, someTypes)
	for depth := 1; depth <= 4; depth++ {
		p := with(begins("literal 7; call 0; return"), append(append([]string(nil), its...), "f 0 0 -1::step @5; literal 7; call 0; return")...)
		is(t, "P16: calls", ended(made(t, p, table, depth).Run(99)), fmt.Sprint("overflow ", 2*depth+1))
		asModel(t, p, table, depth, 99)
	}
	for _, c := range []struct{ call, one, two string }{
		{"literal 4; call 0", "overflow 2", "done 2 | nil"},
		{"nilof 1 'fault'; select 1 'Error'; call 0", "overflow 2", "panic 2 ! nil field word"},
		{"literal 5; call 0", "overflow 2", "panic 2 ! arguments 0 for 2"},
		{"expression 0 'T m'; nil; call 1", "overflow 2", "panic 2 ! conversion nil is not T"},
		{"nil; call 0", "panic 1 ! nil call", "panic 1 ! nil call"},
		{"literal 4; defer 0; nil", "overflow 2", "done 2 | nil"},
		{"text 'a'; deferbuilt 1 'print'; nil", "done 1 | a", "done 1 | a"},
	} {
		p := with(begins("literal 7; call 0; return"), append(append([]string(nil), its...), "f 0 0 -1::"+c.call+"; return")...)
		is(t, "P16: depth 1: "+c.call, ended(made(t, p, table, 1).Run(99)), c.one)
		is(t, "P16: depth 2: "+c.call, ended(made(t, p, table, 2).Run(99)), c.two)
		asModel(t, p, table, 1, 99)
		asModel(t, p, table, 2, 99)
	}
}

// The greatest depth, and as many laid down calls within one another.
func TestGreatestDepth(t *testing.T) {
	is(t, "P16: 1000 calls", ended(made(t, with(begins("literal 1; call 0; return"), "f 0 0 -1::literal 1; call 0; return"), noTypes(), 1000).Run(99999)), "overflow 1001")
	text := "func f(n) { defer func() { recover(); if n > 0 { f(n - 1) }; panic(n) }(); panic(n) }\nfunc main() { f(400) }"
	asWalk(t, text, 100000, 1000, 777)
	asWalk(t, text, 100000, 300)
}

// Events that print, panic and recover tell, of code in which no step was met.
func TestHands(t *testing.T) {
	p := with(begins("step @3; literal 1; call 0 @4; built 1 'print'; return"),
		"f 0 0 -1::literal 2; call 0 @5; built 1 'print'; step @6; built 1 'print'; return",
		"g 0 0 -1::int '7'; built 1 'print'; return")
	is(t, "P16.2: hands", events(t, p, noTypes(), 5, 99), "1@3 2@4:f 2@5:g 7@0:7 3@5:g 7@0:nil 1@6 7@6:nil 3@4:f 7@3:nil")
	asModel(t, p, noTypes(), 5, 99)
}

// A chain of embedded protocols: 60 may be gone through; also when that is seen by an expression's call, or where nothing lies behind the last one.
func TestChains(t *testing.T) {
	table := tableOf(t, someTypes)
	chain := func(n int, first string) string {
		return first + strings.Repeat("; struct 1 'V P'", n)
	}
	ask(t, table, []asked{
		{chain(60, "struct 0 'T'") + "; select 1 'm'; call 0", "T{x: nil, y: nil} T"},
		{chain(61, "struct 0 'T'") + "; select 1 'm'; call 0", "! missing m of V"},
		{"expression 0 'V m'; " + chain(60, "struct 0 'T'") + "; call 1", "T{x: nil, y: nil} T"},
		{"expression 0 'V m'; " + chain(61, "struct 0 'T'") + "; call 1", "! missing m of V"},
		{chain(60, "nilof 1 'V'") + "; select 1 'm'", "! missing m of V"}, // ahead of the way there
		{chain(59, "nilof 1 'V'") + "; select 1 'm'", "! nil method m"},
		{chain(60, "struct 0 'V'") + "; object; select 1 'm'", "! missing m of *V"},
		{chain(59, "struct 0 'V'") + "; object; select 1 'm'", "! nil method m"},
		{"struct 0 'V'; object; fresh 0; load 0; placefield 'P'; load 0; put; load 0; select 0 'm'", "! missing m of *V"},
		{"struct 0 'V'; object; fresh 0; load 0; placefield 'P'; load 0; put; expression 1 'V m'; load 0; call 1", "! missing m of *V"},
	})
}
