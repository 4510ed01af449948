package machine_test

import (
	"fmt"
	"math/rand/v2"
	"strings"
	"testing"

	"guise/api"
	"guise/code"
	"guise/machine"
	"guise/types"
)

// piecesOf is fuel in pieces by chance.
func piecesOf(r *rand.Rand) []int {
	var out []int
	for range 1 + r.IntN(12) {
		out = append(out, r.IntN(oneOf(r, 2, 6, 20)))
	}
	return append(out, r.IntN(100))
}

// Code by chance does what the model does: in one piece, with each of some fuels and depths, in pieces; collected between, saved and loaded.
func TestByChance(t *testing.T) {
	t.Parallel()
	table := tableOf(t, world)
	var parts [8]map[string]int
	t.Run("parts", func(t *testing.T) {
		for part := range parts {
			parts[part] = map[string]int{}
			t.Run(fmt.Sprint(part), func(t *testing.T) {
				t.Parallel()
				playByChance(t, table, dice(uint64(part)), parts[part])
			})
		}
	})
	seen := map[string]int{}
	for _, part := range parts {
		for what, n := range part {
			seen[what] += n
		}
	}
	for _, some := range append(strings.Fields("done panic spent overflow "+words), "event 1", "event 2", "event 3", "event 4", "event 5", "event 6", "event 7", "forgotten", "kept", "answered, and panicking") {
		if seen[some] < 2 {
			t.Errorf("%s came %d times by chance", some, seen[some])
		}
	}
	for name := range opNames {
		if seen["did "+name] < 5 {
			t.Errorf("%s was done %d times by chance", name, seen["did "+name])
		}
	}
}

func playByChance(t *testing.T, table *types.Table, r *rand.Rand, seen map[string]int) {
	for range 60 {
		p := grown(r)
		if err := code.Right(p); err != nil {
			t.Fatalf("what has grown is not right: %v\n%s", err, written(p))
		}
		whole := asModel(t, p, table, 12, 300)
		tally(t, seen, whole)
		for range 3 {
			tally(t, seen, asModel(t, p, table, 1+r.IntN(6), r.IntN(whole.last().Steps+2)))
		}
		for range 2 {
			tally(t, seen, asModel(t, p, table, 1+r.IntN(12), piecesOf(r)...))
		}
	}
}

// words are those of faults.
const words = "conversion compare key nil range divide operand missing arguments bool place panic count"

// tally counts what was done; a fault's word is one of the language's.
func tally(t testing.TB, seen map[string]int, s story) {
	t.Helper()
	seen[endNames[s.last().End]]++
	for _, e := range s.events {
		seen[fmt.Sprint("event ", e.Kind)]++
		if word, is := strings.CutPrefix(e.Text, `&fault{word: "`); is && e.Kind == 5 {
			word = word[:strings.IndexByte(word, '"')]
			seen[word]++
			if !strings.Contains(" "+words+" ", " "+word+" ") {
				t.Errorf("P16.7: a fault of another word: %s", brief(e.Text))
			}
		}
	}
	for o, n := range s.done {
		seen["did "+opName(code.Op(o))] += n
	}
	seen["answered, and panicking"] += s.answered
	for i, n := range s.counts {
		if n[1] > 0 {
			seen["forgotten"]++
		}
		if n[2] > 3 && s.runs[i].End == api.Spent {
			seen["kept"]++
		}
	}
}

// narrow is a program that takes all room but so much ahead of all else.
func narrow(p code.Program, left int) code.Program {
	var ahead []code.Inst
	for taken := 0; taken < api.MaxRoom-left; taken += api.MaxMake {
		ahead = append(ahead, asm(fmt.Sprintf("int '%d'; built 1 'make'; pop", min(api.MaxMake, api.MaxRoom-left-taken)))...)
	}
	p = apart(p)
	for i := range p.Funcs[0].Code {
		switch in := &p.Funcs[0].Code[i]; in.Op {
		case code.OpJump, code.OpBranch, code.OpAnd, code.OpOr, code.OpNext:
			in.A += len(ahead)
		}
	}
	p.Funcs[0].Code = append(ahead, p.Funcs[0].Code...)
	return p
}

// Where there is little room it is Full where the model is: room is taken of the same things.
func TestRoomByChance(t *testing.T) {
	t.Parallel()
	table := tableOf(t, world)
	t.Run("parts", func(t *testing.T) {
		for part := range 4 {
			t.Run(fmt.Sprint(part), func(t *testing.T) {
				t.Parallel()
				r, full := dice(100+uint64(part)), 0
				for range 5 {
					p := narrow(grown(r), r.IntN(40))
					must := played(p, table, 12, 300)
					if got := ran(t, p, table, 12, nothingBetween, 300); !got.same(must) {
						t.Fatalf("P16: %s\n%s", difference(got.String(), must.String()), brief(written(p)))
					}
					if must.last().End == api.Full {
						full++
					}
				}
				if full == 0 {
					t.Errorf("%d were full by chance", full)
				}
			})
		}
	})
}

// mutated is a program in which something is another: it may be right or not.
func mutated(r *rand.Rand, p code.Program) code.Program {
	p = apart(p)
	for range 1 + r.IntN(2) {
		f := &p.Funcs[r.IntN(len(p.Funcs))]
		i := r.IntN(len(f.Code))
		in := &f.Code[i]
		switch r.IntN(9) {
		case 0:
			in.Op = code.Op(r.IntN(55))
		case 1, 2:
			in.A = oneOf(r, 0, 1, 2, -1, i, i+1, i-1, r.IntN(len(f.Code)), len(f.Code))
		case 3:
			in.Text = oneOf(r, "", "0", "007", "-", "!", "+", "==", "print", "T", "x", in.Text+"x")
		case 4:
			f.Code[i] = oneOf(r, asm("nil; pop; step; return; bool 1; int '3'; global 0; load 0; placeglobal 1; dup")...)
		case 5:
			in.At = oneOf(r, -1, 60000, 60001)
		case 6:
			f.Slots = r.IntN(8)
		case 7:
			f.Name = oneOf(r, "", "func", "f", "x", "T.sum")
		default:
			f.Around = r.IntN(4) - 1
		}
	}
	return p
}

// asPromised: code that a machine takes is right, and does what the model does; other code is refused for what code.Right says, or for types.
func asPromised(t testing.TB, p code.Program, table *types.Table, pieces ...int) bool {
	t.Helper()
	right := code.Right(p)
	m, err := machine.New(p, table, 6)
	if right != nil {
		if told(err) != told(right) || m != nil {
			t.Fatalf("P16.1: %s; must be %s\n%s", told(err), told(right), brief(written(p)))
		}
		return false
	}
	if must := refused(p, table); told(err) != must || (m == nil) != (must != "ok") {
		t.Fatalf("P16.1: %s; must be %s\n%s", told(err), must, brief(written(p)))
	}
	if err == nil {
		asModel(t, p, table, 6, pieces...)
	}
	return err == nil
}

func TestMutatedByChance(t *testing.T) {
	t.Parallel()
	table := tableOf(t, world)
	r := dice(99)
	taken, not := 0, 0
	for range 60 {
		p := grown(r)
		for range 15 {
			if asPromised(t, mutated(r, p), table, 30, 1, 0, 2, 50) {
				taken++
			} else {
				not++
			}
		}
	}
	if taken < 100 || not < 100 {
		t.Errorf("%d were taken by chance, %d not", taken, not)
	}
}

func FuzzProgram(f *testing.F) {
	for seed := range uint64(20) {
		f.Add(seed, uint8(seed), uint8(5))
	}
	f.Fuzz(func(t *testing.T, seed uint64, fuel, depth uint8) {
		r := dice(seed)
		table := tableOf(t, world)
		p := grown(r)
		asModel(t, p, table, 1+int(depth%20), int(fuel), 3, 100)
		asPromised(t, mutated(r, p), table, int(fuel), 100)
	})
}

// Any bytes that are code, and any that are not.
func FuzzBytes(f *testing.F) {
	for seed := range uint64(20) {
		b, err := code.Encode(grown(dice(seed)))
		if err != nil {
			f.Fatal(err)
		}
		f.Add(b)
	}
	f.Fuzz(func(t *testing.T, b string) {
		p, err := code.Decode(b)
		if err != nil {
			p = code.Program{}
		}
		if len(b) <= api.MaxSource {
			asPromised(t, p, tableOf(t, world), 40, 5, 40)
		}
	})
}
