package dispatch_test

import (
	"strings"
	"testing"
)

// answers are those of chapter 5's examples, written out.
var answers = []struct {
	q    question
	says string
}{
	{find("B", false, "f"), `2 [0] "A" false 0`},
	{find("B", false, "g"), `0 [] "" false 0`},
	{find("B", true, "g"), `2 [0] "A" true 1`},
	{find("B", false, "x"), `4 [] "" false 0`},
	{find("B", true, "x"), `4 [] "" false 0`},
	{find("B", false, "y"), `1 [1 1] "" false 0`},
	{find("B", true, "y"), `1 [1 1] "" false 0`},
	{find("B", false, "h"), `2 [1] "C" true 0`},
	{find("B", false, "A"), `1 [0] "" false 0`},
	{find("D", false, "f"), `1 [1] "" false 0`},
	{find("D", false, "g"), `0 [] "" false 0`},
	{find("D", true, "g"), `2 [0 0] "A" true 1`},
	{find("D", false, "h"), `2 [0 1] "C" true 0`},
	{find("D", false, "y"), `1 [0 1 1] "" false 0`},
	{find("E", false, "f"), `3 [0] "P" false 0`},
	{find("E", true, "g"), `3 [0] "P" false 1`},
	{find("K", false, "n"), `2 [] "K" false 0`},
	{find("K", false, "len"), `0 [] "" false 0`},
	{find("K", true, "n"), `0 [] "" false 0`},
	{find("int", false, "n"), `0 [] "" false 0`},
	{find("fault", true, "Error"), `2 [] "fault" true 0`},
	{find("fault", false, "Error"), `0 [] "" false 0`},
	{find("fault", false, "more"), `1 [1] "" false 0`},
	{find("P", false, "f"), `0 [] "" false 0`},
	{find("nobody", false, "f"), `0 [] "" false 0`},
	{find("", true, ""), `0 [] "" false 0`},
	{find("A", false, ""), `0 [] "" false 0`},
	{find("A", false, "nobody"), `0 [] "" false 0`},
	{meet("A", false, "P"), "false"},
	{meet("A", true, "P"), "true"},
	{meet("A", false, "F"), "true"},
	{meet("D", false, "F"), "false"},
	{meet("E", false, "P"), "true"},
	{meet("E", true, "P"), "true"},
	{meet("K", false, "F"), "false"},
	{meet("A", false, "any"), "true"},
	{meet("K", true, "any"), "true"},
	{meet("fault", true, "error"), "true"},
	{meet("fault", false, "error"), "false"},
	{meet("A", true, "error"), "false"},
	{meet("A", true, "nobody"), "false"},
	{meet("A", true, ""), "false"},
	{meet("A", true, "A"), "false"},
	{meet("nobody", false, "P"), "false"},
	{meet("P", false, "P"), "false"},
	{meet("nobody", false, "any"), "true"},
}

// Both as a miss and as a hit, and where nothing is kept.
func TestAnswers(t *testing.T) {
	roomy, tight, empty := cache(t, declared, 1024), cache(t, declared, 1), cache(t, declared, 0)
	for turn := range 3 {
		for i, one := range answers {
			is(t, "D2: "+one.q.String(), one.q.of(roomy), one.says)
			is(t, "D2: with the room 1: "+one.q.String(), one.q.of(tight), one.says)
			is(t, "D2: with the room 1, again: "+one.q.String(), one.q.of(tight), one.says)
			is(t, "D2: without room: "+one.q.String(), one.q.of(empty), one.says)
			if turn == 0 {
				wantCounts(t, "D3: with room", roomy, 0, i+1, i+1)
			}
			asked := turn*len(answers) + i + 1
			wantCounts(t, "D3: with the room 1", tight, asked, asked, 1)
			wantCounts(t, "D3: without room", empty, 0, asked, 0)
		}
	}
	wantCounts(t, "D3: with room", roomy, 2*len(answers), len(answers), len(answers))
}

// What the table does not know is a question like all others: it is kept, and found again.
func TestUnknownIsKept(t *testing.T) {
	c := cache(t, declared, 1024)
	kept := 0
	for _, q := range mixed() {
		kept++
		wantMiss(t, c, q, kept)
	}
	for _, q := range mixed() {
		wantHit(t, c, q)
	}
}

// near are questions each of which parts from the one before it, and from most others, in little.
func near() []question {
	var out []question
	for _, pair := range [][2]string{
		{"A", "f"}, {"A", "g"}, {"B", "f"}, {"f", "A"}, {"a", "f"}, {"A", "F"}, {"A ", "f"}, {" A", "f"}, {"A", "f "}, {"*A", "f"}, {"A", "*f"},
		{"Af", ""}, {"", "Af"}, {"A", ""}, {"", "A"}, {"", "f"}, {"f", ""}, {"", ""}, {"AA", "f"}, {"A", "Af"}, {"A", "ff"},
		{"A\x00", "f"}, {"A", "\x00f"}, {"A\x00f", ""}, {"A,f", ""}, {"A", ",f"}, {"A.f", ""}, {"A", ".f"}, {"A\nf", ""}, {"A", "\nf"},
		{"Atrue", "f"}, {"A", "truef"}, {"A1", "f"}, {"A", "1f"}, {"A0", "f"}, {"A", "0f"}, {"true", "f"}, {"\xff", "f"}, {"\xfe", "f"}, {"A", "\xff"}, {"ä", "f"}, {"a\u0308", "f"},
		{"A", "P"}, {"A", "any"}, {"A", "error"},
		{strings.Repeat("A", 100000), "f"}, {strings.Repeat("A", 99999), "f"}, {strings.Repeat("A", 99999) + "B", "f"}, {"A", strings.Repeat("f", 100000)}, {"A", strings.Repeat("f", 99999) + "g"}, {"B" + strings.Repeat("A", 99999), "f"},
	} {
		for _, pointer := range []bool{false, true} {
			out = append(out, find(pair[0], pointer, pair[1]), meet(pair[0], pointer, pair[1]))
		}
	}
	return out
}

// No two of them are the same, whichever argument they part in.
func TestNearQuestionsAreNotTheSame(t *testing.T) {
	x := table(t, declared)
	all := near()
	for _, q := range all {
		c := over(t, x, 1024)
		wantMiss(t, c, q, 1)
		for i, p := range all {
			if p == q {
				wantHit(t, c, p)
				continue
			}
			is(t, "D2: "+p.String(), p.of(c), p.by(x))
			if c.Kept() != c.Misses() || c.Hits() > i {
				t.Fatalf("D2: %s is not %s: %s", p, q, counts(c))
			}
		}
		wantCounts(t, "D2: all near ones", c, 1, len(all), len(all))
	}
}

// In a room for one alone, each near one drives the other out.
func TestNearQuestionsInTurns(t *testing.T) {
	x := table(t, declared)
	all := near()
	for i, q := range all {
		p := all[(i+1)%len(all)]
		c, d := over(t, x, 1), over(t, x, 2)
		for turn := range 3 {
			wantMiss(t, c, q, 1)
			wantMiss(t, c, p, 1)
			if turn == 0 {
				wantMiss(t, d, q, 1)
				wantMiss(t, d, p, 2)
				continue
			}
			wantHit(t, d, q)
			wantHit(t, d, p)
		}
	}
}

// The two kinds with the same three arguments have entries of their own, and answers of their own.
func TestKindsAreNotTheSame(t *testing.T) {
	x := table(t, declared)
	c := over(t, x, 1024)
	for i, one := range []struct {
		name    string
		pointer bool
		what    string
		found   string
		meets   string
	}{
		{"E", false, "P", `1 [0] "" false 0`, "true"},
		{"E", true, "P", `1 [0] "" false 0`, "true"},
		{"A", true, "P", `0 [] "" false 0`, "true"},
		{"A", false, "P", `0 [] "" false 0`, "false"},
		{"A", false, "f", `2 [] "A" false 0`, "false"},
		{"", false, "", `0 [] "" false 0`, "false"},
		{"A", false, "any", `0 [] "" false 0`, "true"},
	} {
		f, m := find(one.name, one.pointer, one.what), meet(one.name, one.pointer, one.what)
		if i%2 == 1 {
			wantMiss(t, c, m, 2*i+1)
			wantMiss(t, c, f, 2*i+2)
		} else {
			wantMiss(t, c, f, 2*i+1)
			wantMiss(t, c, m, 2*i+2)
		}
		for range 2 {
			is(t, "D2: "+f.String(), f.of(c), one.found)
			is(t, "D2: "+m.String(), m.of(c), one.meets)
		}
		wantCounts(t, "D2: both kinds", c, 4*(i+1), 2*(i+1), 2*(i+1))
	}
}

// Looking at the counts asks nothing.
func TestCountsAskNothing(t *testing.T) {
	c := cache(t, declared, 2)
	wantMiss(t, c, find("A", false, "f"), 1)
	wantMiss(t, c, find("B", false, "f"), 2)
	for range 5 {
		wantCounts(t, "D3", c, 0, 2, 2)
	}
	wantMiss(t, c, find("C", false, "f"), 2)
	wantHit(t, c, find("B", false, "f"))
}
