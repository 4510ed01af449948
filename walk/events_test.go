package walk_test

import (
	"strings"
	"testing"

	"guise/api"
	"guise/walk"
)

// marked is a program in which `#1` and so on stand where events are told: the program without them, and their places.
func marked(s string) (string, map[int]string) {
	places := map[int]string{}
	for {
		i := strings.IndexByte(s, '#')
		if i < 0 {
			return s, places
		}
		places[i] += s[i+1 : i+2]
		s = s[:i] + s[i+2:]
	}
}

// wantEvents holds the events of a marked program against what must be told: kind, text and the mark of the place (- for 0).
func wantEvents(t *testing.T, s, must string) {
	t.Helper()
	s, places := marked(s)
	events, _, _ := watched(t, s, 1000, 8)
	var got []string
	for _, e := range events {
		at := places[e.At]
		if at == "" && e.At == 0 {
			at = "-"
		}
		text := string(rune('0'+e.Kind)) + at
		if e.Text != "" {
			text += ":" + e.Text
		}
		got = append(got, text)
	}
	if all := strings.Join(got, " "); all != must {
		t.Errorf("W2: %s\n%s; must be\n%s", s, all, must)
	}
	asTheModel(t, s, parsed(t, s), 1000, 8)
}

func TestEvents(t *testing.T) {
	wantEvents(t, "func f() { #adefer g(); #bpanic(\"x\") }\nfunc g() { #cprint(recover()) }\nfunc main() { #dprint(f#e()) }",
		`2-:main 1d 2e:f 1a 4a 1b 5b:"x" 2a:g 1c 6c:"x" 7c:x 3a:g 3e:f 7d:nil 3-:main`)
	wantEvents(t, "func main() { #ax := 1; #bif x == 1 { #cx = 2 } else { }; #dfor #e{ #fbreak }; #gswitch x { case 2: #hfallthrough; case 3: #ix++ } }",
		"2-:main 1a 1b 1c 1d 1f 1g 1h 1i 3-:main")
	wantEvents(t, "func main() { #aif false { } else #bif true { #cprint(1) }; { #dprint(2) }; #eL: for i in 2 { #fcontinue L } }",
		"2-:main 1a 1b 1c 7c:1 1d 7d:2 1e 1f 1f 3-:main")
	wantEvents(t, "func main() { #areturn f#b(f#c(1)) }\nfunc f(a) { #dreturn a }", "2-:main 1a 2c:f 1d 3c:f 2b:f 1d 3b:f 3-:main")
	wantEvents(t, "\n#avar x = f#b()\n#cvar y = print(2)\nfunc f() { #dprint(1) }\nfunc main() { }", "1a 2b:f 1d 7d:1 3b:f 1c 7c:2 2-:main 3-:main")
	wantEvents(t, "\n#avar x = panic(5)\nfunc main() { }", "1a 5a:5")
	wantEvents(t, "func main() { #amain#b() }", "2-:main "+strings.Repeat("1a 2b:main ", 7)+"1a")
}

func TestEventsOfCalls(t *testing.T) {
	declared := `
type T struct { a }
func (t T) get() { }
func (t *T) set(x) { }
type E struct { .T; .*U }
type U struct { u }
func (u U) low() { }
type W struct { .P }
type V struct { .W }
protocol P { get(0) }
type K = int
func (k K) get() { }
`
	for _, c := range []row{
		{"func() { }#a()", "2a:func 3a:func"},
		{"T{}.get#a()", "2a:T.get 3a:T.get"}, {"(&T{}).set#a(1)", "2a:T.set 3a:T.set"}, {"(&E{}).set#a(1)", "2a:T.set 3a:T.set"}, {"E{U: &U{}}.low#a()", "2a:U.low 3a:U.low"}, {"K(1).get#a()", "2a:K.get 3a:K.get"},
		{"W{P: K(1)}.get#a()", "2a:K.get 3a:K.get"}, {"V{W: W{P: W{P: T{}}}}.get#a()", "2a:T.get 3a:T.get"}, {"(&fault{}).Error#a()", "2a:fault.Error 3a:fault.Error"},
		{"T.get#a(T{})", "2a:T.get 3a:T.get"}, {"E.get#a(E{})", "2a:T.get 3a:T.get"}, {"(*E).set#a(&E{}, 1)", "2a:T.set 3a:T.set"}, {"W.get#a(W{P: K(1)})", "2a:P.get 3a:P.get"}, {"(*V).get#a(&V{W: W{P: W{P: T{}}}})", "2a:P.get 3a:P.get"}, {"(*fault).Error#a(&fault{})", "2a:fault.Error 3a:fault.Error"},
		{"f := T{}.get; f#a()", "2a:T.get 3a:T.get"}, {"f := W{P: K(1)}.get; f#a()", "2a:K.get 3a:K.get"}, {"f := W.get; f#a(W{P: K(1)})", "2a:P.get 3a:P.get"}, {"f := func() { }; g := f; g#a()", "2a:func 3a:func"},
		{"#adefer T{}.get()", "4a 2a:T.get 3a:T.get"}, {"#adefer W.get(W{P: T{}})", "4a 2a:P.get 3a:P.get"}, {"#adefer (&fault{}).Error()", "4a 2a:fault.Error 3a:fault.Error"}, {"#adefer print(1)", "4a 7a:1"}, {"#adefer len(\"a\")", "4a"},
	} {
		s, places := marked(declared + "func main() { " + c.s + " }")
		events, _, err := watched(t, s, 100, 8)
		var got []string
		for _, e := range events[1:max(1, len(events)-1)] {
			if e.Kind != 1 {
				got = append(got, string(rune('0'+e.Kind))+places[e.At]+strings.TrimSuffix(":"+e.Text, ":"))
			}
		}
		if all := strings.Join(got, " "); all != c.must || err != nil {
			t.Errorf("W2: %s: %s; must be %s (%v)", c.s, all, c.must, err)
		}
		asTheModel(t, s, parsed(t, s), 100, 8)
	}
}

// Where a panic begins is the hand's place: that of the statement that was begun last in the function in which it is.
func TestHands(t *testing.T) {
	wantEvents(t, "func f(a) { }\nfunc main() { #aprint(1); #bf#c() }", `2-:main 1a 7a:1 1b 2c:f 5b:&fault{word: "arguments", more: "0 for 1"}`)
	wantEvents(t, "func f() { #aprint(1) }\nfunc main() { #bf#c(); #d{ #eif true { #fx := 1 } }; #gnil(func)() }", `2-:main 1b 2c:f 1a 7a:1 3c:f 1e 1f 1g 5g:&fault{word: "nil", more: "call"}`)
	wantEvents(t, "func main() { #ai := 0; #bfor 1 / (1 - i) == 1 { #ci++ } }", `2-:main 1a 1b 1c 5c:&fault{word: "divide", more: ""}`)
	wantEvents(t, "func main() { #adefer nil(func)(); #bprint(1) }", `2-:main 1a 4a 1b 7b:1 5b:&fault{word: "nil", more: "call"}`)
	wantEvents(t, "func f(a) { }\nfunc main() { #adefer f(); #bprint(1) }", `2-:main 1a 4a 1b 7b:1 2a:f 5b:&fault{word: "arguments", more: "0 for 1"}`)
	wantEvents(t, "func main() { #adefer panic(2); #bpanic(1) }", "2-:main 1a 4a 1b 5b:1 5b:2")
	wantEvents(t, "func main() { #adefer 5(); #bprint(1) }", `2-:main 1a 5a:&fault{word: "operand", more: "() int"}`)
	wantEvents(t, "func main() { #aprint(1); #bnil(*fault).Error#c() }", `2-:main 1a 7a:1 1b 2c:fault.Error 5b:&fault{word: "nil", more: "field word"}`)
	wantEvents(t, "func main() { #aprint(1); #bint.m() }", `2-:main 1a 7a:1 1b 5b:&fault{word: "missing", more: "m of int"}`)
	wantEvents(t, "type T struct { .P }\nprotocol P { m(0) }\nfunc main() { #aT.m#b(T{}) }", `2-:main 1a 2b:P.m 5a:&fault{word: "nil", more: "method m"}`)
	wantEvents(t, "type T struct { .P }\nprotocol P { m(0) }\nfunc main() { #aT.m#b(5) }", `2-:main 1a 2b:P.m 5a:&fault{word: "conversion", more: "int is not T"}`)
	wantEvents(t, "func main() { #afunc() { #bdefer func() { #cprint(recover()) }(); #dpanic(nil) }#e(); #fprint(2) }", `2-:main 1a 2e:func 1b 4b 1d 5d:&fault{word: "panic", more: ""} 2b:func 1c 6c:&fault{word: "panic", more: ""} 7c:&fault{word: "panic", more: ""} 3b:func 3e:func 1f 7f:2 3-:main`)
}

func TestEventsOfPanicsWithinOneAnother(t *testing.T) {
	wantEvents(t, "func main() { #adefer h(); #bdefer g(); #cpanic(1) }\nfunc g() { #dpanic(2) }\nfunc h() { #erecover(); #fdefer k(); #gpanic(3) }\nfunc k() { #hprint(recover()) }",
		"2-:main 1a 4a 1b 4b 1c 5c:1 2b:g 1d 5d:2 2a:h 1e 6e:2 1f 4f 1g 5g:3 2f:k 1h 6h:3 7h:3 3f:k 3a:h 3-:main")
	wantEvents(t, "func main() { #adefer f(); #bg#c() }\nfunc g() { #dh#e() }\nfunc h() { #fpanic([1]) }\nfunc f() { #gprint(recover()) }",
		"2-:main 1a 4a 1b 2c:g 1d 2e:h 1f 5f:[1] 2a:f 1g 6g:[1] 7g:[1] 3a:f 3-:main")
	wantEvents(t, "func main() { #adefer f(); #bpanic(1) }\nfunc f() { #cfunc() { #drecover() }#e() }", "2-:main 1a 4a 1b 5b:1 2a:f 1c 2e:func 1d 3e:func 3a:f")
	wantEvents(t, "func main() { #adefer recover(); #bpanic(1) }", "2-:main 1a 4a 1b 5b:1")
}

// Nothing is told of a step that was not counted, of a call that overflows, and of what there is no room for.
func TestEventsAtTheEnd(t *testing.T) {
	s := "func main() { print(1); f() }\nfunc f() { print(2) }"
	all, _, _ := watched(t, s, 100, 8)
	for fuel := range 6 {
		part, o, _ := watched(t, s, fuel, 8)
		if o.End != api.Spent && fuel < 5 || len(part) > len(all) || eventTexts(s, part) != eventTexts(s, all[:len(part)]) {
			t.Errorf("W2: with the fuel %d: %s", fuel, eventTexts(s, part))
		}
	}
	if part, o, _ := watched(t, s, 100, 1); o.End != api.Overflow || eventTexts(s, part) != "2:main@0 1@14 7:1@14 1@24" {
		t.Errorf("W2: with the depth 1: %s", eventTexts(s, part))
	}
	if part, _, _ := watched(t, s, 2, 8); eventTexts(s, part) != "2:main@0 1@14 7:1@14" {
		t.Errorf("W2: with the fuel 2: %s", eventTexts(s, part))
	}
}

// A value that is too long to be shown is dots; a line is told whole, however long.
func TestLongEvents(t *testing.T) {
	s := `func main() { s := "a"; for i in 16 { s += s }; print(s, s); defer func() { recover() }(); panic(s) }`
	events, o, _ := watched(t, s, 100, 8)
	count := map[int]string{}
	for _, e := range events {
		count[e.Kind] = e.Text
	}
	if o.End != api.Done || len(count[7]) != 131073 || count[5] != ".." || count[6] != ".." {
		t.Errorf("W2: long events: %d, %s, %s", len(count[7]), brief(count[5]), brief(count[6]))
	}
	s = strings.Replace(s, "panic(s)", "panic(s[:65534])", 1)
	events, _, _ = watched(t, s, 100, 8)
	for _, e := range events {
		if (e.Kind == 5 || e.Kind == 6) && len(e.Text) != 65536 {
			t.Errorf("W2: an event that may just be: %d", len(e.Text))
		}
	}
}

// Events take no room, and a nil tell is told nothing.
func TestWatchingTakesNothing(t *testing.T) {
	s := `func main() { for i in 15 { make(65536) }; make(65000); f() }
func f() { defer func() { recover() }(); panic("` + strings.Repeat("x", 1000) + `") }`
	n := parsed(t, s)
	o, err := walk.Run(n, 100, 8)
	p, perr := walk.Watch(n, 100, 8, func(api.Event) {})
	q, qerr := walk.Watch(n, 100, 8, nil)
	if o.End != api.Done || told(o, err) != told(p, perr) || told(o, err) != told(q, qerr) || o.Steps != p.Steps || o.Steps != q.Steps {
		t.Errorf("W6: %s, %s, %s", told(o, err), told(p, perr), told(q, qerr))
	}
}

// At is whatever the tree says, and is told as it is.
func TestAnyPlaces(t *testing.T) {
	n := parsed(t, "func main() { print(1) }")
	n.Kids[0].Kids[1].Kids[0].At = -77
	got := ""
	walk.Watch(n, 10, 10, func(e api.Event) { got += eventText("", e) + " " })
	if got != "2:main@0 1@-77 7:1@-77 3:main@0 " {
		t.Errorf("W2: %s", got)
	}
}

// A panic of who watches is his own: it is neither taken for one of the program's, nor lost.
func TestTellThatPanics(t *testing.T) {
	n := parsed(t, "func main() { defer f(); g() }\nfunc f() { print(recover()) }\nfunc g() { print(1) }")
	defer func() {
		if got := recover(); got != "mine" {
			t.Errorf("W2: %v", got)
		}
	}()
	walk.Watch(n, 100, 10, func(e api.Event) {
		if e.Kind == 7 {
			panic("mine")
		}
	})
	t.Errorf("W2: a panic of who watches is lost")
}
