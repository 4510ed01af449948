package peep_test

import (
	"fmt"
	"testing"

	"guise/api"
	"guise/code"
	"guise/compile"
	"guise/parse"
	"guise/types"
	"guise/walk"
)

// texts are programs, those of the documents among them.
func texts() []string {
	return []string{
		`func main() { }`,
		`func main() { print(1 + 2, "a" + "b", [1, "x", nil]) }`,
		"type P struct { x }\nfunc (p *P) get() { if p == nil(*P) { return \"none\" }; return p.x }\nfunc main() { q := nil(*P); print(q == nil, q.get()) }",
		"protocol Sound { say(0) }\ntype Dog struct { name }\nfunc (d Dog) say() { return d.name }\ntype Pup struct { .*Dog }\nfunc main() { s, ok := Pup{}.(Sound); print(ok); print(Pup{Dog: &Dog{name: \"Rex\"}}.(Sound).say()) }",
		`func main() { x := "a"; y := x.(int) }`,
		`func main() { defer func() { e := recover(); switch v := e.(type) { case error: print(v.Error()) } }(); print([1] == [1]) }`,
		`func main() { m := map{1: "a"}; m[[1]] = 2 }`,
		"func f() { defer func() { recover() }(); panic(\"x\") }\nfunc main() { print(f()) }",
		`func main() { l := []; for i in 3 { l = append(l, func() { return i }) }; for j, f in l { print(f()) } }`,
		`func main() { for { } }`,
		`func main() { a := make(2); b := a[0:1]; b = append(b, 7); print(a) }`,
		"var x = 1\nfunc main() { x++ }",
		`func main() { for i in 3 { if i == 1 { break }; print(i) } }`,
		`func main() { for true { if !false { break } }; for false { print(1) }; if 1 < 2 { print(2) } else { print(3) } }`,
		`func main() { for 1 == 1 { } }`,
		`func main() { for 1 == 2 { print(1) }; print(1 << 63 >> 63, -(5 - 6), 7 / (1 - 1)) }`,
		`func main() { switch { case false: print(1); case 1 + 1 == 2: print(2); fallthrough; case true: print(3); default: print(4) } }`,
		`func main() { L: for true { for i in 5 { if i == 2 { continue L }; if i == 3 { break L } } } }`,
		`func main() { if true && false || !true { print(1) }; print(true && 1) }`,
		`func main() { if 5 { } }`,
		`func main() { print(1 == true, 1 != 1.0, !(true == true)); return 5; print(6) }`,
		"func f(n) { if false { return 0 }; if n == 0 { return -1 }; return f(n - 1) - (2 * 3) }\nfunc main() { print(f(5)); f(10000) }",
		`func main() { s := "a"; for true { s += s } }`,
		`func main() { for true { s := make(30000 + 30000) } }`,
		`func main() { for i in 10 { if true { continue }; print(i) } }`,
		textWorld + `func main() { print(g, h); p := &P{x: 1 + 1}; p.set(-(-3)).x++; print(*p, p.sum()) }`,
	}
}

// textAlike: the code of a text, made shorter, does what walk does with its tree, and what it did itself.
func textAlike(t testing.TB, s string, seen map[string]int, plays ...[2]int) {
	t.Helper()
	n, err := parse.Program(s)
	if err != nil {
		t.Fatalf("%v: %s", err, s)
	}
	p, err := compile.Program(n)
	if err != nil {
		t.Fatalf("%v: %s", err, s)
	}
	table, _ := types.Make(n)
	q := shorter(t, p)
	if wrong := refused(q, table); wrong != "" {
		t.Fatalf("S1.2: no machine takes it: %s\n%s", wrong, s)
	}
	for _, play := range plays {
		walked := story{runs: make([]api.Outcome, 1)}
		walked.runs[0], walked.err = walk.Watch(n, play[0], play[1], func(e api.Event) { walked.events = append(walked.events, e) })
		got := alike(t, p, q, table, play[1], play[0])
		tally(seen, got, p, q)
		if got := played(q, table, play[1], play[0]); !got.same(walked) {
			t.Fatalf("T2: fuel %d, depth %d: %s\n%s\n%s", play[0], play[1], difference(got.String(), walked.String()), s, brief(written(q)))
		}
	}
	alike(t, p, q, table, 8, 1, 0, 2, 3, 5, 8, 13, 21, 200)
}

func TestTexts(t *testing.T) {
	t.Parallel()
	seen := map[string]int{}
	for _, s := range texts() {
		plays := [][2]int{{20000, 1000}, {300, 4}}
		for fuel := range 40 {
			plays = append(plays, [2]int{fuel, 1 + fuel%5})
		}
		textAlike(t, s, seen, plays...)
	}
	for _, end := range endNames[1:] {
		if seen[end] == 0 {
			t.Errorf("none of the texts ended %s", end)
		}
	}
}

func TestTextsByChance(t *testing.T) {
	t.Parallel()
	for part := range 4 {
		t.Run(fmt.Sprint(part), func(t *testing.T) {
			t.Parallel()
			r := dice(500 + uint64(part))
			seen := map[string]int{}
			for range 100 {
				textAlike(t, writtenText(r), seen, [2]int{600, 30}, [2]int{r.IntN(60), 1 + r.IntN(4)}, [2]int{r.IntN(200), 1 + r.IntN(4)})
			}
			for _, some := range []string{"done", "panic", "spent", "overflow", "shorter", "event 5", "event 6", "bool", "divide", "operand"} {
				if seen[some] < 5 {
					t.Errorf("%s came %d times by chance", some, seen[some])
				}
			}
		})
	}
}

// Steps, ticks and calls are never left out, where they are come to.
func TestNoStepGoes(t *testing.T) {
	t.Parallel()
	p, err := compile.Text(`func main() { for i in 3 { for true { break }; { }; if true { print(i) } } }`)
	if err != nil {
		t.Fatal(err)
	}
	counted := func(p code.Program) (n int) {
		for _, f := range p.Funcs {
			comes := comeTo(f.Code)
			for i, in := range f.Code {
				if comes[i] && (in.Op == code.OpStep || in.Op == code.OpTick || in.Op == code.OpCall || in.Op == code.OpBuilt) {
					n++
				}
			}
		}
		return n
	}
	if q := shorter(t, p); counted(p) != counted(q) || count(q) >= count(p) {
		t.Errorf("S1.2: %d are counted, of %d\n%s", counted(q), counted(p), written(q))
	}
}

func FuzzText(f *testing.F) {
	for seed := range uint64(20) {
		f.Add(seed, uint16(300), uint8(8))
	}
	f.Fuzz(func(t *testing.T, seed uint64, fuel uint16, depth uint8) {
		textAlike(t, writtenText(dice(seed)), map[string]int{}, [2]int{int(fuel % 2000), 1 + int(depth%40)})
	})
}
