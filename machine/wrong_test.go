package machine_test

import (
	"math"
	"testing"

	"guise/api"
	"guise/code"
	"guise/machine"
	"guise/types"
)

// wantNoMachine: New answers that error, new each time, and no machine.
func wantNoMachine(t testing.TB, p code.Program, table *types.Table, depth int, must string) {
	t.Helper()
	m, err := machine.New(p, table, depth)
	if told(err) != must || m != nil {
		t.Errorf("P16.1: %s, and a machine: %v; must be %s\n%s", told(err), m != nil, must, brief(written(p)))
		return
	}
	if _, again := machine.New(p, table, depth); again == err {
		t.Error("P2: an error is not new")
	}
	if depth == 1 {
		if m, err := machine.Load("", p, table); told(err) != must || m != nil {
			t.Errorf("P16.4: Load: %s; must be what New says: %s", told(err), must)
		}
	}
}

const typesOfAll = `
type T struct { x; y }
type E struct { .T; z }
type K = int
type L = list
type M = map
type F = func
type B = bool
type D = float
type S = text
protocol P { m(0) }
`

// Each instruction that names a type, with names of each kind: which ones are such.
func TestTypesThatAreNamed(t *testing.T) {
	table := tableOf(t, typesOfAll)
	names := []string{"bool", "int", "float", "text", "list", "map", "func", "fault", "error", "any", "T", "E", "K", "L", "M", "F", "B", "D", "S", "P", "nobody"}
	kind := map[string]int{"bool": 1, "int": 2, "float": 3, "text": 4, "list": 5, "map": 6, "func": 7, "fault": 8, "T": 8, "E": 8, "K": 2, "L": 5, "M": 6, "F": 7, "B": 1, "D": 3, "S": 4}
	protocol := map[string]bool{"error": true, "any": true, "P": true}
	for _, name := range names {
		k := kind[name]
		for _, c := range []struct {
			in   string
			may  bool
			only bool // code.Right takes no other names
		}{
			{"nilof 0 '" + name + "'; return", k >= api.KList && k <= api.KFunc, name == "any"},
			{"nilof 1 '" + name + "'; return", k == api.KStruct, name == "any" || name == "map" || name == "func"},
			{"expression 0 '" + name + " x'; return", k != 0, name == "any" || name == "map" || name == "func"},
			{"expression 1 '" + name + " x'; return", k == api.KStruct, name == "any" || name == "map" || name == "func"},
			{"struct 0 '" + name + "'; return", k == api.KStruct, name == "any" || name == "map" || name == "func"},
			{"nil; assert 0 '" + name + "'; return", k != 0 || protocol[name], false},
			{"nil; assert 1 '" + name + "'; return", k == api.KStruct, name == "any" || name == "map" || name == "func"},
			{"nil; holds 0 '" + name + "'; pop; return", k != 0 || protocol[name], false},
			{"nil; holds 1 '" + name + "'; pop; return", k == api.KStruct, name == "any" || name == "map" || name == "func"},
		} {
			wantSuch(t, c.in, table, c.may && !c.only)
		}
		for to := api.KBool; to <= api.KFunc; to++ {
			wantSuch(t, "nil; convert "+string(rune('0'+to))+" '"+name+"'; return", table, k == to)
		}
	}
	wantSuch(t, "nil; holds 2; pop; return", table, true)
	for text, may := range map[string]bool{"T x": true, "T y": true, "T y x": true, "T z": false, "T x z": false, "E T z": true, "E x": false, "E z T": true, "fault word more": true, "fault x": false, "K x": false} {
		n := 0
		for _, r := range text {
			if r == ' ' {
				n++
			}
		}
		in := "nil; nil; "
		if n == 1 {
			in = "nil; "
		}
		wantSuch(t, in+"struct "+string(rune('0'+n))+" '"+text+"'; return", table, may)
	}
}

// wantSuch: the last instruction but one or two is taken, or refused by its number.
func wantSuch(t testing.TB, s string, table *types.Table, may bool) {
	t.Helper()
	p := begins(s)
	right := code.Right(p)
	m, err := machine.New(p, table, 1)
	switch {
	case right != nil:
		if told(err) != told(right) || m != nil {
			t.Errorf("P16.1: %s: %s; must be %s", s, told(err), told(right))
		}
	case may:
		if err != nil || m == nil {
			t.Errorf("P16.1: %s is refused: %v", s, err)
		}
	default:
		at := 0
		for i, in := range p.Funcs[0].Code {
			if in.Text != "" {
				at = i
			}
		}
		wantNoMachine(t, p, table, 1, "130 0 "+string(rune('0'+at)))
	}
}

// Depths and code that may not be, and of several the first one.
func TestNewRefuses(t *testing.T) {
	wrong := begins("return")
	unknown := begins("struct 0 'T'; return")
	for _, depth := range []int{0, -1, 1001, 1 << 40, math.MinInt, math.MaxInt} {
		wantNoMachine(t, begins("nil; return"), noTypes(), depth, "1 0")
		wantNoMachine(t, wrong, noTypes(), depth, "1 0")
		wantNoMachine(t, unknown, noTypes(), depth, "1 0")
	}
	for _, depth := range []int{1, 2, 999, 1000} {
		made(t, begins("nil; return"), noTypes(), depth)
	}
	wantNoMachine(t, wrong, noTypes(), 1, "130 0 0")
	wantNoMachine(t, code.Program{}, noTypes(), 1, "22 0")
	both := with(unknown, "f 0 0 -1::return")
	wantNoMachine(t, both, noTypes(), 1, "130 1 0") // what code.Right says comes first
	table := tableOf(t, "type A struct { a }\nfunc (a A) m() { }")
	wantNoMachine(t, unknown, table, 1, "130 0 0")                                          // and a type ahead of a method
	wantNoMachine(t, begins("nil; return; nilof 0 'int'; return"), noTypes(), 1, "130 0 2") // also where nobody comes to
	p := with(begins("nil; return"), "f 0 0 -1::nil; return", "g 0 0 -1::nil; nilof 1 'T'; pop; assert 0 'x'; struct 0 'y'; return", "h 0 0 -1::nilof 1 'T'; return")
	wantNoMachine(t, p, noTypes(), 1, "130 2 1")
}

// Methods that the code lacks: the first one by its bytes, of whichever type; with another number of parameters; a literal's is none.
func TestMethodsThatAreLacking(t *testing.T) {
	text := "type B struct { .A }\ntype A struct { a }\nfunc (b B) n(x) { }\nfunc (b *B) a(x, y) { }\nfunc (a A) z() { }\ntype K = int\nfunc (k K) m() { }\nprotocol Q { q(3) }\ntype Z struct { .Q; .fault }"
	table := tableOf(t, text)
	p := begins("nil; return")
	for _, step := range []struct{ add, lacks string }{
		{"", "A.z"},
		{"A.z 1 1 -1::nil; return", "B.a"},
		{"B.n 2 2 -1::nil; return", "B.a"},
		{"B.a 3 3 -1::nil; return", "K.m"},
		{"K.m 1 1 -1::nil; return", ""},
	} {
		if step.add != "" {
			p = with(p, step.add)
		}
		if step.lacks != "" {
			wantNoMachine(t, p, table, 1, "130 0 "+step.lacks)
		} else {
			made(t, p, table, 1)
		}
	}
	for i, other := range []int{0, 2, 1, 2} { // of each another number
		q := apart(p)
		q.Funcs[1+i].Params = other
		q.Funcs[1+i].Slots = 3
		if other != p.Funcs[1+i].Params {
			wantNoMachine(t, q, table, 1, "130 0 "+p.Funcs[1+i].Name)
		}
	}
	q := apart(p)
	q.Funcs[2].Name = "B.nn"
	wantNoMachine(t, q, table, 1, "130 0 B.n")
	made(t, with(begins("nil; return"), "fault.Error 5 5 -1::nil; return"), noTypes(), 1)
}

func TestFuelsThatMayNotBe(t *testing.T) {
	for _, fuel := range []int{-1, 1000001, math.MinInt, math.MaxInt, 1 << 32} {
		m := made(t, begins("step; nil; return"), noTypes(), 1)
		for range 2 {
			o, err := m.Run(fuel)
			if told(err) != "1 0" || o.End != 0 || o.Out != nil || o.Steps != 0 || m.Over() {
				t.Errorf("P16.2: Run(%d): %s %v", fuel, told(err), o)
			}
		}
		is(t, "P16.2: and then", ended(m.Run(1)), "done 1")
		if o, err := m.Run(fuel); told(err) != "1 0" || o.End != 0 || o.Steps != 0 {
			t.Errorf("P16.2: Run(%d) of one that is over: %s %v", fuel, told(err), o)
		}
	}
}

// Text refuses what walk.Text refuses, in the same order.
func TestTextRefuses(t *testing.T) {
	for _, s := range []string{"", "func main() {", "func main() { return x }", "func f() { }", "type T struct { .T }\nfunc main() { }", "func main() { 'x' }", "\"", "func main() { break }", "type int = int\nfunc main() { }"} {
		for _, limit := range [][2]int{{5, 5}, {-1, 5}, {5, 0}, {1000001, 5}, {5, 1001}, {-1, -1}} {
			o, err := machine.Text(s, limit[0], limit[1])
			must := textError(s, limit[0], limit[1])
			if told(err) != must || o.End != 0 || o.Out != nil || o.Steps != 0 {
				t.Errorf("P16.2: Text(%q, %d, %d): %s; must be %s", s, limit[0], limit[1], told(err), must)
			}
		}
	}
	for _, limit := range [][2]int{{0, 1}, {1000000, 1000}} {
		if _, err := machine.Text("func main() { }", limit[0], limit[1]); err != nil {
			t.Error("P16.2: Text:", err)
		}
	}
}
