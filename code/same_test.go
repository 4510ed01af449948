package code_test

import (
	"fmt"
	"math"
	"testing"

	"guise/code"
)

// apartInOne are changes that each leave a program another one.
func apartInOne() map[string]func(p *code.Program) {
	out := map[string]func(p *code.Program){
		"a variable's name":      func(p *code.Program) { p.Globals[1] += "x" },
		"a variable more":        func(p *code.Program) { p.Globals = append(p.Globals, "more") },
		"a variable less":        func(p *code.Program) { p.Globals = p.Globals[:2] },
		"variables turned":       func(p *code.Program) { p.Globals[0], p.Globals[2] = p.Globals[2], p.Globals[0] },
		"no variable":            func(p *code.Program) { p.Globals = nil },
		"a function more":        func(p *code.Program) { p.Funcs = append(p.Funcs, declared("more", ends()...)) },
		"a function less":        func(p *code.Program) { p.Funcs = p.Funcs[:len(p.Funcs)-1] },
		"functions turned":       func(p *code.Program) { p.Funcs[2], p.Funcs[3] = p.Funcs[3], p.Funcs[2] },
		"no function":            func(p *code.Program) { p.Funcs = nil },
		"a taken one":            func(p *code.Program) { p.Funcs[2].Taken[3]-- },
		"a taken one more":       func(p *code.Program) { p.Funcs[2].Taken = append(p.Funcs[2].Taken, 0) },
		"a taken one less":       func(p *code.Program) { p.Funcs[2].Taken = p.Funcs[2].Taken[:3] },
		"none taken":             func(p *code.Program) { p.Funcs[2].Taken = nil },
		"a text's byte":          func(p *code.Program) { p.Funcs[1].Code[1].Text = "\x00\xfe\"\\\n\t a" },
		"a text's end":           func(p *code.Program) { p.Funcs[1].Code[1].Text += "\x00" },
		"an instruction more":    func(p *code.Program) { p.Funcs[1].Code = append(p.Funcs[1].Code, ret) },
		"an instruction less":    func(p *code.Program) { p.Funcs[1].Code = p.Funcs[1].Code[:8] },
		"no code":                func(p *code.Program) { p.Funcs[3].Code = nil },
		"an instruction's place": func(p *code.Program) { p.Funcs[3].Code[1].At = 1 },
	}
	for k := range 4 {
		out[fmt.Sprint("the name of ", k)] = func(p *code.Program) { p.Funcs[k].Name += "x" }
		out[fmt.Sprint("the parameters of ", k)] = func(p *code.Program) { p.Funcs[k].Params = math.MinInt }
		out[fmt.Sprint("the slots of ", k)] = func(p *code.Program) { p.Funcs[k].Slots++ }
		out[fmt.Sprint("around ", k)] = func(p *code.Program) { p.Funcs[k].Around += 7 }
	}
	for i := range 9 {
		out[fmt.Sprint("the operation of ", i)] = func(p *code.Program) { p.Funcs[1].Code[i].Op += 50 }
		out[fmt.Sprint("A of ", i)] = func(p *code.Program) { p.Funcs[1].Code[i].A += 1 << 40 }
		out[fmt.Sprint("B of ", i)] = func(p *code.Program) { p.Funcs[1].Code[i].B = -1 }
		out[fmt.Sprint("the text of ", i)] = func(p *code.Program) { p.Funcs[1].Code[i].Text += "\n" }
		out[fmt.Sprint("the place of ", i)] = func(p *code.Program) { p.Funcs[1].Code[i].At++ }
	}
	return out
}

// Each field by itself, of programs that are right and of others.
func TestSame(t *testing.T) {
	if !code.Same(rich(), rich()) || !code.Same(code.Program{}, code.Program{}) {
		t.Error("P13.2: a program is not the same as itself")
	}
	for what, change := range apartInOne() {
		p := apart(rich())
		change(&p)
		if code.Same(p, rich()) || code.Same(rich(), p) {
			t.Errorf("P13.2: the same, but for %s", what)
		}
		if !code.Same(p, apart(p)) {
			t.Errorf("P13.2: %s: not the same as itself", what)
		}
		for other, change := range apartInOne() {
			q := apart(rich())
			change(&q)
			if code.Same(p, q) != (what == other) {
				t.Errorf("P13.2: %s, and %s", what, other)
			}
		}
	}
}

// A list of nothing may be nil or empty.
func TestSameWithoutElements(t *testing.T) {
	p := code.Program{Funcs: []code.Func{{Taken: nil, Code: nil}}}
	q := code.Program{Globals: []string{}, Funcs: []code.Func{{Taken: []int{}, Code: []code.Inst{}}}}
	if !code.Same(p, q) || !code.Same(q, p) {
		t.Error("P13.2: lists without elements are not the same")
	}
	if !code.Same(code.Program{Funcs: []code.Func{}}, code.Program{}) {
		t.Error("P13.2: no functions are not the same")
	}
	empty := one(ends()...)
	empty.Globals, empty.Funcs[0].Taken = []string{}, []int{}
	wantRight(t, "empty lists", empty, "ok")
	is(t, "P5: Encode", encoded(t, empty), encoded(t, one(ends()...)))
	is(t, "P5: List", listed(t, empty), listed(t, one(ends()...)))
}

func TestSameByChance(t *testing.T) {
	r := dice(9)
	var all []code.Program
	for range 60 {
		p := grown(r)
		all = append(all, p, apart(p), mutated(r, p), mutated(r, mutated(r, p)))
	}
	for _, p := range all {
		for _, q := range all {
			if code.Same(p, q) != (written(p) == written(q)) {
				t.Fatalf("P13.2: Same is %v of\n%s\n%s", code.Same(p, q), written(p), written(q))
			}
		}
	}
}
