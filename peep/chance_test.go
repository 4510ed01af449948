package peep_test

import (
	"fmt"
	"math/rand/v2"
	"strings"
	"testing"

	"guise/api"
	"guise/code"
	"guise/peep"
	"guise/types"
)

// piecesOf is fuel in pieces by chance.
func piecesOf(r *rand.Rand) []int {
	var out []int
	for range 1 + r.IntN(8) {
		out = append(out, r.IntN(oneOf(r, 2, 6, 20)))
	}
	return append(out, r.IntN(100))
}

// Code by chance: it is right, made shorter as is promised, and does the same: in one piece, with each of some fuels and depths, and in pieces.
func TestByChance(t *testing.T) {
	t.Parallel()
	table := tableOf(t, world)
	var parts [8]map[string]int
	t.Run("parts", func(t *testing.T) {
		for part := range parts {
			parts[part] = map[string]int{}
			t.Run(fmt.Sprint(part), func(t *testing.T) {
				t.Parallel()
				playByChance(t, table, dice(uint64(part)), parts[part])
			})
		}
	})
	seen := map[string]int{}
	for _, part := range parts {
		for what, n := range part {
			seen[what] += n
		}
	}
	for _, some := range append(strings.Fields("done panic spent overflow conversion nil range divide operand missing arguments bool place count shorter one"), "event 1", "event 2", "event 3", "event 4", "event 5", "event 6", "event 7") {
		if seen[some] < 5 {
			t.Errorf("%s came %d times by chance", some, seen[some])
		}
	}
	for o := code.OpStep; o <= code.OpDrop; o++ {
		if seen["has "+opNames[o]] < 5 {
			t.Errorf("%s came %d times by chance", opNames[o], seen["has "+opNames[o]])
		}
	}
}

func playByChance(t *testing.T, table *types.Table, r *rand.Rand, seen map[string]int) {
	for range 400 {
		p := grown(r)
		if wrong := refused(p, table); wrong != "" {
			t.Fatalf("no machine takes what has grown: %s\n%s", wrong, written(p))
		}
		q := shorter(t, p)
		if wrong := refused(q, table); wrong != "" {
			t.Fatalf("S1.2: no machine takes it any more: %s\n%s", wrong, written(q))
		}
		whole := alike(t, p, q, table, 12, 400)
		tally(seen, whole, p, q)
		for range 4 {
			tally(seen, alike(t, p, q, table, 1+r.IntN(6), r.IntN(whole.last().Steps+2)), p, q)
		}
		for range 3 {
			alike(t, p, q, table, 1+r.IntN(12), piecesOf(r)...)
		}
	}
}

// narrow is a program that takes all room but so much ahead of all else.
func narrow(p code.Program, left int) code.Program {
	var ahead []code.Inst
	for taken := 0; taken < api.MaxRoom-left; taken += api.MaxMake {
		ahead = append(ahead, num(min(api.MaxMake, api.MaxRoom-left-taken)), built("make", 1), pop)
	}
	p = apart(p)
	p.Funcs[0].Code = inRow(ahead, moved(len(ahead), p.Funcs[0].Code))
	return p
}

// Where there is little room it is Full at the same instruction: what is made shorter takes as much.
func TestRoomByChance(t *testing.T) {
	t.Parallel()
	table, r, full := tableOf(t, world), dice(7), 0
	for range 300 {
		p := narrow(grown(r), r.IntN(80))
		if alike(t, p, shorter(t, p), table, 12, 400).last().End == api.Full {
			full++
		}
	}
	if full < 50 {
		t.Errorf("%d were full by chance", full)
	}
}

// tally counts what was done.
func tally(seen map[string]int, s story, p, q code.Program) {
	seen[endNames[s.last().End]]++
	for _, e := range s.events {
		seen[fmt.Sprint("event ", e.Kind)]++
		if word, is := strings.CutPrefix(e.Text, `&fault{word: "`); is && e.Kind == 5 {
			seen[word[:strings.IndexByte(word, '"')]]++
		}
	}
	for _, f := range p.Funcs {
		for _, in := range f.Code {
			seen["has "+opNames[in.Op]]++
		}
	}
	if count(q) < count(p) {
		seen["shorter"]++
	}
	for _, f := range q.Funcs {
		if len(f.Code) == 2 {
			seen["one"]++
		}
	}
}

// mutated is a program in which something is another: it may be right or not.
func mutated(r *rand.Rand, p code.Program) code.Program {
	p = apart(p)
	for range 1 + r.IntN(3) {
		f := &p.Funcs[r.IntN(len(p.Funcs))]
		i := r.IntN(len(f.Code))
		in := &f.Code[i]
		switch r.IntN(9) {
		case 0:
			in.Op = code.Op(r.IntN(55))
		case 1, 2:
			in.A = oneOf(r, 0, 1, 2, -1, i, i+1, i-1, r.IntN(len(f.Code)), len(f.Code))
		case 3:
			in.Text = oneOf(r, "", "0", "007", "-", "!", "+", "==", "print", "T", in.Text+"x")
		case 4:
			f.Code[i] = oneOf(r, null, pop, step, ret, yes, no, num(3), jump(r.IntN(len(f.Code))), branch(r.IntN(len(f.Code))))
		case 5:
			in.At = oneOf(r, -1, 60000, 60001)
		case 6:
			f.Slots = r.IntN(4)
		case 7:
			f.Name = oneOf(r, "", "func", "f", "x", "T.sum")
		default:
			f.Around = r.IntN(4) - 1
		}
	}
	return p
}

// asPromised: code that is not right is refused as code.Right refuses it; what is right is made shorter, and does the same, if a machine takes it.
func asPromised(t testing.TB, p code.Program, table *types.Table) bool {
	t.Helper()
	if must := told(code.Right(p)); must != "ok" {
		wantWrong(t, p, must)
		return false
	}
	q := shorter(t, p)
	if refused(p, table) == "" {
		alike(t, p, q, table, 6, 60)
		alike(t, p, q, table, 3, 1, 0, 2, 3, 5, 8, 13)
	}
	return true
}

// wantWrong: both calls answer that error, new each time, and nothing else.
func wantWrong(t testing.TB, p code.Program, must string) {
	t.Helper()
	q, err := peep.Program(p)
	n, serr := peep.Saved(p)
	if told(err) != must || told(serr) != must {
		t.Fatalf("S1: %s, S3: %s; must be %s\n%s", told(err), told(serr), must, brief(written(p)))
	}
	if q.Funcs != nil || q.Globals != nil || n != 0 {
		t.Fatalf("P2: something beside an error\n%s", brief(written(p)))
	}
	if _, again := peep.Program(p); again == err || err == serr {
		t.Fatal("P2: an error is not new")
	}
}

func TestMutatedByChance(t *testing.T) {
	t.Parallel()
	table := tableOf(t, world)
	r := dice(99)
	right, not := 0, 0
	for range 150 {
		p := grown(r)
		for range 20 {
			if asPromised(t, mutated(r, p), table) {
				right++
			} else {
				not++
			}
		}
	}
	if right < 200 || not < 200 {
		t.Errorf("%d were right by chance, %d not", right, not)
	}
}

func FuzzProgram(f *testing.F) {
	for seed := range uint64(20) {
		f.Add(seed, uint8(seed), uint8(5))
	}
	f.Fuzz(func(t *testing.T, seed uint64, fuel, depth uint8) {
		r := dice(seed)
		table := tableOf(t, world)
		p := grown(r)
		alike(t, p, shorter(t, p), table, 1+int(depth%20), int(fuel), 3, 100)
		asPromised(t, mutated(r, p), table)
	})
}

// Any bytes that are code, and any that are not.
func FuzzBytes(f *testing.F) {
	for seed := range uint64(20) {
		b, err := code.Encode(grown(dice(seed)))
		if err != nil {
			f.Fatal(err)
		}
		f.Add(b)
	}
	f.Fuzz(func(t *testing.T, b string) {
		p, err := code.Decode(b)
		if err != nil {
			p = code.Program{}
		}
		if len(b) <= api.MaxSource {
			asPromised(t, p, tableOf(t, world))
		}
	})
}
