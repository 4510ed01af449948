package machine_test

import (
	"fmt"
	"strings"
	"testing"

	"guise/api"
	"guise/code"
	"guise/machine"
)

// somewhere is code that leaves a value that was laid down in a variable, an element, a key's entry, a field, a literal's variable, or handed over.
func somewhere(v string) []string {
	return []string{
		v,
		v + "; fresh 0; load 0",
		v + "; storeglobal 0; global 0",
		v + "; list 1; int '0'; index",
		"int '1'; " + v + "; map 1; int '1'; index",
		v + "; struct 1 'T x'; select 0 'x'",
		v + "; struct 1 'T y'; object; select 0 'y'",
		v + "; store 0; literal 6; call 0; int '0'; index",
		"literal 5; nil; " + v + "; call 2; int '0'; index",
	}
}

// T4: wherever a value lies, a two-valued assertion has no fault, and says yes just where the one-valued has none; whatever holds a protocol has its methods.
func TestAssertionsWhereverTheyLie(t *testing.T) {
	table := tableOf(t, someTypes)
	values := []string{"nil", "bool 1", "int '1'", "float '0000000000000000'", "text 'a'", "list 0", "map 0", "literal 5", "struct 0 'T'", "struct 0 'E'", "struct 0 'Q'", "struct 0 'V'", "int '1'; convert 2 'K'", "list 0; convert 5 'L'",
		"nilof 0 'list'", "nilof 0 'func'", "nilof 1 'T'", "nilof 1 'E'", "nilof 1 'V'", "struct 0 'T'; object", "struct 0 'Q'; object", "struct 0 'fault'; object", "struct 0 'fault'"}
	wants := []string{"0 'int'", "0 'K'", "0 'list'", "0 'L'", "0 'T'", "1 'T'", "0 'E'", "1 'E'", "0 'V'", "1 'V'", "0 'P'", "0 'any'", "0 'error'", "1 'fault'", "0 'func'", "0 'bool'"}
	run := func(s string) string {
		return ended(made(t, with(begins(s+"; return"), its...), table, 9).Run(99))
	}
	for _, v := range values {
		for _, want := range wants {
			holds := ""
			for i, at := range somewhere(v) {
				two := run(at + "; holds " + want + "; built 2 'print'")
				one := run(at + "; assert " + want)
				if strings.Contains(two, "!") || strings.HasSuffix(two, " true") != !strings.Contains(one, "!") {
					t.Errorf("T4: %s: holds %s: %s; assert: %s", at, want, two, one)
				}
				said := two[strings.LastIndexByte(two, ' '):]
				if i == 0 {
					holds = said
				} else if said != holds {
					t.Errorf("T4: %s, as %s: %s; else %s", at, want, said, holds)
				}
			}
			if want == "0 'P'" && holds == " true" {
				got := run(v + "; select 1 'm'; call 0")
				if strings.Contains(got, "missing") || strings.Contains(got, "arguments") {
					t.Errorf("T4: %s holds P: %s", v, got)
				}
			}
		}
		for _, at := range somewhere(v) {
			is(t, "T5: "+at, run(at+"; holds 2; fresh 3; pop; load 3; built 1 'print'"), run(at+"; nil; binary '=='; built 1 'print'"))
		}
	}
}

// T5: a pointer to none is not nil; its methods can be called, and are told it.
func TestNilWithin(t *testing.T) {
	for _, s := range []string{
		"type T struct { x }\nfunc (t *T) me() { return t == nil(*T) }\nfunc main() { l := [nil(*T), &T{}]; for i, t in l { print(t == nil, t.me(), t.(any)) } }",
		"type T struct { x }\nprotocol P { me(0) }\ntype U struct { .*T }\ntype V struct { .P }\nfunc (t *T) me() { return t == nil(*T) }\nfunc main() { print(U{}.me(), V{P: nil(*T)}.me(), V{P: U{}}.me(), (&U{}).me()); print(V{}.me()) }",
		"type T struct { x }\nfunc (t *T) me() { return t }\nfunc main() { f := (*T).me; g := nil(*T).me; print(f(nil(*T)), g()); m := map{nil(*T): 1}; print(m[g()], m[nil]); switch v := g().(type) { case nil: print(\"nil\"); case *T: print(v) }; g().x = 1 }",
		"type F = func\nfunc main() { f := nil(F); print(f == nil, typeof(f)); defer f(); print(1) }",
		"type M = map\nfunc main() { m := nil(M); print(m == nil, m[1], len(m)); for k in m { print(k) }; delete(m, 1); m[1] = 2 }",
		"type L = list\nfunc main() { l := nil(L); print(l == nil, len(l), cap(l), l[:], l[0:0:0]); for i in l { print(i) }; l = append(l, nil(L)); print(l, copy(l, l)); print(nil(L)[0]) }",
	} {
		asWalk(t, s, 200, 9)
		asWalk(t, s, 200, 9, 1)
	}
}

// T4: a switch over types takes the first case whose assertion holds.
func TestTypeSwitches(t *testing.T) {
	cases := []string{"int", "K", "P", "any", "nil", "*T", "T", "error", "list", "text"}
	for i := range cases {
		var arms, asks string
		for k := range cases {
			c := cases[(i+k*3)%len(cases)]
			arms += "case " + c + ": print(\"" + c + "\", v); "
			if c == "nil" {
				asks += "if v == nil { print(\"nil\", v); return nil }; "
			} else {
				asks += "x" + fmt.Sprint(k) + ", ok" + fmt.Sprint(k) + " := v.(" + c + "); if ok" + fmt.Sprint(k) + " { print(\"" + c + "\", v); return nil }; "
			}
		}
		types := "type T struct { x }\ntype K = int\nprotocol P { m(0) }\nfunc (t T) m() { }\nfunc (k K) m() { }\n"
		main := "func main() { for i, v in [1, K(2), nil, T{}, &T{}, nil(*T), \"a\", [1], &fault{}, 1.5] { f(v) } }\n"
		a := asWalk(t, types+main+"func f(v) { switch v := v.(type) { "+arms+"default: print(\"none\") } }", 900, 9)
		b := asWalk(t, types+main+"func f(v) { "+asks+"print(\"none\") }", 900, 9)
		if x, y := strings.Join(a.last().Out, "|"), strings.Join(b.last().Out, "|"); x != y {
			t.Errorf("T4: %s\nand by assertions %s", x, y)
		}
	}
}

// Who watches changes nothing: each call that is told ends, or a panic comes; what is recovered had begun.
func TestWhoWatches(t *testing.T) {
	table, r := tableOf(t, world), dice(77)
	for range 100 {
		p := grown(r)
		m, n := made(t, p, table, 9), made(t, p, table, 9)
		open, panics := 0, 0
		m.Watch(func(e api.Event) {
			switch e.Kind {
			case 2:
				open++
			case 3:
				open--
			case 5:
				panics++
			case 6:
				if panics == 0 {
					t.Error("W6: recovered, and no panic began")
				}
			}
			if open < 0 {
				t.Error("W6: a call ended that had not begun")
			}
		})
		o, err := m.Run(300)
		is(t, "W6", ended(n.Run(300)), ended(o, err))
		if o.End == api.Done && panics == 0 && open != 0 {
			t.Errorf("W6: %d calls have not ended", open)
		}
		if m.Things() != n.Things() || m.Collect() != n.Collect() || saved(t, m) != saved(t, n) {
			t.Error("W6: who watches changes something")
		}
	}
}

// T10: code there and back is the same program: what a machine of the one saved, one of the other goes on with.
func TestThereAndBack(t *testing.T) {
	table, r := tableOf(t, world), dice(78)
	for range 40 {
		p := grown(r)
		b, err := code.Encode(p)
		if err != nil {
			t.Fatal(err)
		}
		q, err := code.Decode(b)
		if err != nil {
			t.Fatal(err)
		}
		whole := ended(made(t, p, table, 9).Run(200))
		m := made(t, p, table, 9)
		m.Run(50)
		is(t, "T10", ended(loaded(t, saved(t, m), q, table).Run(150)), whole)
		if a, b := points(t, p, table, 9, 20, 30), points(t, q, table, 9, 20, 30); strings.Join(a, "") != strings.Join(b, "") {
			t.Error("P4: two machines of one code say unlike bytes")
		}
	}
}

// With more fuel a run goes on where it ended with less; with more depth, too.
func TestMoreFuel(t *testing.T) {
	for _, s := range playable() {
		var last api.Outcome
		for fuel := range 80 {
			o, err := machine.Text(s, fuel, 9)
			if len(o.Out) < len(last.Out) || o.Steps < last.Steps || strings.Join(o.Out[:len(last.Out)], "|") != strings.Join(last.Out, "|") {
				t.Fatalf("W5: with the fuel %d: %s; with one less %s", fuel, ended(o, err), ended(last, nil))
			}
			last = o
		}
	}
}
