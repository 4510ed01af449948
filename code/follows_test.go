package code_test

import (
	"fmt"
	"slices"
	"testing"

	"guise/api"
	"guise/code"
)

// Programs by chance, each against each: there and back, unlike ones unlike.
func TestUnlikeOnesAreUnlike(t *testing.T) {
	r := dice(11)
	ways := []map[string]string{{}, {}, {}}
	for range 1500 {
		p := grown(r)
		for _, q := range []code.Program{p, mutated(r, p), mutated(r, p)} {
			if code.Right(q) != nil {
				continue
			}
			wantThereAndBack(t, "by chance", q)
			for i, key := range []string{written(q), encoded(t, q), listed(t, q)} {
				other, has := ways[i][key]
				if has && other != written(q) {
					t.Fatalf("P13.6: unlike programs have one %q\n%s\n%s", brief(key), other, written(q))
				}
				ways[i][key] = written(q)
			}
		}
	}
	if len(ways[0]) < 1500 || len(ways[1]) != len(ways[0]) || len(ways[2]) != len(ways[0]) {
		t.Errorf("P13.6: %d programs have %d rows of bytes and %d texts", len(ways[0]), len(ways[1]), len(ways[2]))
	}
}

// Each change of one thing that leaves a program right changes its bytes and its lines.
func TestEachChangeShows(t *testing.T) {
	right := 0
	for what, change := range apartInOne() {
		p := apart(rich())
		change(&p)
		if code.Right(p) == nil {
			right++
			wantUnlike(t, p, rich())
			wantThereAndBack(t, what, p)
		}
	}
	if right < 10 {
		t.Error("too few were right:", right)
	}
}

// turnsWithoutSteps: whether a run could go round in a function's code without a step or a tick.
func turnsWithoutSteps(l []code.Inst) bool {
	const (
		onTheWay = 1
		behind   = 2
	)
	state := make([]int, len(l))
	var goes func(i int) bool
	goes = func(i int) bool {
		if i >= len(l) || l[i].Op == code.OpStep || l[i].Op == code.OpTick || state[i] == behind {
			return false
		}
		if state[i] == onTheWay {
			return true
		}
		state[i] = onTheWay
		round := l[i].Op != code.OpJump && l[i].Op != code.OpReturn && goes(i+1) || goesTo(l[i].Op) && goes(l[i].A)
		state[i] = behind
		return round
	}
	for i := range l {
		if goes(i) {
			return true
		}
	}
	return false
}

func TestATurnMore(t *testing.T) {
	if !turnsWithoutSteps([]code.Inst{null, pop, jump(0)}) || turnsWithoutSteps([]code.Inst{step, null, pop, jump(0)}) {
		t.Fatal("the test does not know a turn")
	}
	r := dice(12)
	backs, refused := 0, 0
	for range 4000 {
		for _, p := range []code.Program{grown(r), mutated(r, grown(r)), waysBack(r.IntN)} {
			right := code.Right(p) == nil
			for _, f := range p.Funcs {
				goesBack := slices.ContainsFunc(f.Code, func(in code.Inst) bool { return goesTo(in.Op) && in.A < len(f.Code)/2 })
				if right && goesBack {
					backs++
				}
				if fieldsFit(f.Code) && turnsWithoutSteps(f.Code) {
					refused++
					if right {
						t.Fatalf("P13.7: it goes round without a step\n%s", written(p))
					}
				}
			}
		}
	}
	if backs < 300 || refused < 300 {
		t.Errorf("P13.7: %d went back, %d without a step", backs, refused)
	}
}

// fieldsFit: where instructions go there are instructions.
func fieldsFit(l []code.Inst) bool {
	return !slices.ContainsFunc(l, func(in code.Inst) bool { return goesTo(in.Op) && (in.A < 0 || in.A >= len(l)) })
}

// waysBack is a function of steps and jumps, that go anywhere.
func waysBack(n func(int) int) code.Program {
	var l []code.Inst
	size := 2 + n(7)
	for range size {
		l = append(l, []code.Inst{step, tick, jump(n(size + 1)), jump(n(size + 1)), to(code.OpDrop, 0)}[n(5)])
	}
	return one(append(l, jump(n(size+1)))...)
}

// An instruction more that nobody comes to, and a return behind it, leave a program right.
func TestNobodyComesThere(t *testing.T) {
	for _, f := range fields() {
		for _, a := range f.as {
			for _, s := range []string{f.texts[0], f.texts[len(f.texts)-1]} {
				in := code.Inst{Op: f.op, A: a, Text: s, At: api.MaxSource}
				for _, stack := range []string{"", "v"} {
					p := hosted(append(pushed(stack), null, ret))
					l := &p.Funcs[host].Code
					if in.A == there {
						in.A = len(*l) + 1
					}
					*l = append(*l, in, ret)
					wantRight(t, "P13.8: "+f.what(in), p, "ok")
					in.A = a
				}
			}
		}
	}
}

func TestNobodyComesThereByChance(t *testing.T) {
	r := dice(13)
	for range 1500 {
		p := grown(r)
		if code.Right(p) != nil {
			t.Fatal("what has grown is not right")
		}
		k := r.IntN(len(p.Funcs))
		g := &grower{Rand: r, p: p}
		c := &coder{grower: g, number: k}
		in := c.inst(code.Op(1+r.IntN(len(operations))), "vvvv")
		if in.Op == 0 {
			continue
		}
		last := len(p.Funcs[k].Code)
		if goesTo(in.Op) {
			in.A = last + 1
		}
		p.Funcs[k].Code = append(slices.Clone(p.Funcs[k].Code), in, ret)
		wantRight(t, fmt.Sprintf("P13.8: %+v behind", in), p, "ok")
		p.Funcs[k].Code = p.Funcs[k].Code[:last+1]
		must := "ok"
		if in.Op != code.OpReturn && in.Op != code.OpJump || in.A > last {
			must = wrongCode(k, last)
		}
		wantRight(t, fmt.Sprintf("P13.8: %+v as the last one", in), p, must)
	}
}
