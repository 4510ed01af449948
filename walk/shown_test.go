package walk_test

import (
	"fmt"
	"strings"
	"testing"

	"guise/walk"
)

func TestShown(t *testing.T) {
	wantRows(t, "00", kinds, []row{
		{`print(nil, true, false, 0, -5, K(5), K(-5), 1.0, G(0.5), 0.0 / 0.0, G(0.0 / 0.0), B(true))`, "done: nil true false 0 -5 K(5) K(-5) 0x3ff0000000000000 G(0x3fe0000000000000) nan G(nan) B(true)"},
		{`print("a b", ["a b"], S("a"), [S("a")], "", [""])`, `done: a b ["a b"] S("a") [S("a")]  [""]`}, {`print(["\n\t\"\\"], "x\ty")`, "done: [\"\\n\\t\\\"\\\\\"] x\ty"},
		{`print([], [1], [1, [2, nil]], L([]), L([L([1])]), nil(list), nil(L), [nil(list)])`, "done: [] [1] [1, [2, nil]] L([]) L([L([1])]) nil(list) nil(L) [nil(list)]"},
		{`print(map{}, map{1: 2, "a": [1]}, M(map{nil: nil}), nil(map), nil(M), map{T{}: 1})`, `done: map{} map{1: 2, "a": [1]} M(map{nil: nil}) nil(map) nil(M) map{T{a: nil, b: nil}: 1}`},
		{`print(T{}, &T{a: 1}, nil(*T), T{a: T{b: &T{}}}, [&U{u: "x"}], E{})`, `done: T{a: nil, b: nil} &T{a: 1, b: nil} nil(*T) T{a: T{a: nil, b: &T{a: nil, b: nil}}, b: nil} [&U{u: "x"}] E{T: T{a: nil, b: nil}, U: nil(*U), P: nil, c: nil}`},
		{`print(f, func() { }, F(f), nil(func), nil(F), K(1).m, K.m)`, "done: func func F(func) nil(func) nil(F) func func"},
		{`l := [0]; l[0] = l; print(l)`, "done: [[[[[[[[..]]]]]]]]"}, {`l := L([0]); l[0] = l; print(l)`, "done: L([L([L([L([L([L([L([L([..])])])])])])])])"}, {`m := map{}; m[1] = m; print(m)`, "done: " + strings.Repeat("map{1: ", 8) + ".." + strings.Repeat("}", 8)}, {`p := &U{}; p.u = p; print(p)`, "done: &U{u: &U{u: &U{u: &U{u: ..}}}}"}, {`p := &U{}; p.u = p; print([p])`, "done: [&U{u: &U{u: &U{u: &..}}}]"},
		{`x := [1, nil(list), "a", T{}, f, nil(*T), nil]; for i in 7 { x = [x] }; print(x)`, `done: [[[[[[[[1, nil(list), "a", .., func, nil(*T), nil]]]]]]]]`}, {`x := [L([]), map{}, M(map{}), &T{}, nil(L), F(f), K(1)]; for i in 7 { x = [x] }; print(x)`, "done: [[[[[[[[.., .., .., .., nil(L), F(func), K(1)]]]]]]]]"}, {`x := T{a: 1}; for i in 8 { x = T{b: x} }; print(x)`, "done: " + strings.Repeat("T{a: nil, b: ", 8) + ".." + strings.Repeat("}", 8)},
		{`m := map{1: 2, 3: 4, 5: 6, 7: 8}; delete(m, 3); delete(m, 5); delete(m, 7); print(m); m[3] = 9; print(m)`, "done: map{1: 2}|map{1: 2, 3: 9}"},
	})
}

// What is shown within eight others is dots, whatever the eight are.
func TestDeepShown(t *testing.T) {
	around := []string{"[x]", "L([x])", "map{1: x}", "M(map{1: x})", "T{a: x}", "&U{u: x}"}
	counts := []int{1, 1, 1, 1, 1, 2}
	r := dice(4)
	for range 60 {
		s, within := "x := [];", 0
		for within < 7 {
			i := r.IntN(len(around))
			s += " x = " + around[i] + ";"
			within += counts[i]
		}
		got := told(walk.Text(kinds+"func main() { "+s+" print(x) }", 1000, 10))
		if strings.Contains(got, "..") != (within > 7) {
			t.Errorf("00: %s: %s", s, got)
		}
		wantMain(t, "00", kinds, s+" print(x, show(x))", got+got[5:])
	}
}

// How long something is is not worked out to its end.
func TestVeryLongShown(t *testing.T) {
	wide := `l := make(500); for i in 500 { l[i] = 5 }; for i in 6 { k := make(500); for j in 500 { k[j] = l }; l = k }; `
	for s, must := range map[string]string{
		wide + `print(l)`:                                             "panic:  <count|65537>",
		wide + `x := show(map{1: l})`:                                 "panic:  <count|65537>",
		wide + `panic(l)`:                                             "panic:  {..}",
		wide + `print(len(l), typeof(l))`:                             "done: 500 list",
		`m := map{}; for i in 8000 { m[i] = "abc" }; print(m)`:        "panic:  <count|65537>",
		`m := map{}; for i in 5000 { m[i] = 1 }; print(len(show(m)))`: "done: 43893",
	} {
		o, err := walk.Text("func main() { "+s+" }", 100000, 10)
		if got := told(o, err); got != must {
			t.Errorf("00: %s: %s; must be %s", s, brief(got), must)
		}
	}
	for size := 65528; size <= 65538; size++ {
		s := fmt.Sprintf(`func main() { s := "a"; for i in 15 { s += s }; print([s, s[:%d]]) }`, size-32768-8)
		must := map[bool]string{true: "done", false: "panic"}[size <= 65536]
		if o, err := walk.Text(s, 100, 5); endNames[o.End] != must || o.End == 1 && len(o.Out[0]) != size {
			t.Errorf("00: what is shown in %d bytes: %s", size, brief(told(o, err)))
		}
	}
}
