package walk_test

import (
	"fmt"
	"strings"
	"testing"

	"guise/api"
	"guise/walk"
)

const roomDeclared = `
type T struct { a; b; .S }
type S struct { s }
type W struct { .P }
type L = list
type K = text
protocol P { m(0) }
func (s S) m() { return 1 }
func (s *S) n() { return 2 }
func (t T) own() { return 3 }
func f() { return 1 }
func caught() { recover() }
`

// withRoom is a main that does something when just so much room is left, behind something that takes none of that.
func withRoom(left int, ahead, s string) string {
	return roomDeclared + fmt.Sprintf("func main() { %s for i in 15 { make(65536) }; make(65536 - %d - USED); %s }\n", ahead, left, s)
}

// Each row takes just so much room: with that much left it is done, with one less it is Full.
func TestRoom(t *testing.T) {
	for _, c := range []struct {
		ahead string
		used  int // what is done ahead takes so much
		s     string
		room  int
	}{
		{``, 0, `x := 1; y := "abc"; z := nil; b := 1.5 + 2.0 < 3.0`, 0},
		{``, 0, `x := [1, 2, 3]`, 3}, {``, 0, `x := []`, 0}, {``, 0, `x := [[1], [2, 3]]`, 5}, {``, 0, `x := make(9)`, 9}, {``, 0, `x := make(0)`, 0},
		{``, 0, `x := "ab" + "cde"`, 5}, {``, 0, `x := "" + ""`, 0}, {``, 0, `x := "a"; x += "bcd"; x += ""`, 8}, {``, 0, `x := K("ab") + K("c")`, 3}, {``, 0, `x := "abc"[1:]; y := K(x); z := x == "bc"`, 0},
		{``, 0, `x := map{}`, 0}, {``, 0, `x := map{1: 2, 3: 4}`, 4}, {``, 0, `x := map{1: 2, 1: 4}`, 2},
		{``, 0, `x := map{}; x[1] = 2; x[1] = 3; x[1] += 4; x[2] = 5`, 4}, {``, 0, `x := map{1: 2}; delete(x, 1); x[1] = 2`, 4}, {``, 0, `x := map{0.0 / 0.0: 1}; x[0.0 / 0.0] = 2`, 4},
		{`m := map{1: 1, 2: 2, 3: 3};`, 6, `for k in m { }`, 3}, {`m := map{1: 1, 2: 2, 3: 3};`, 6, `for k in m { break }`, 3}, {`m := map{};`, 0, `for k in m { }`, 0}, {`m := nil(map);`, 0, `for k in m { }`, 0},
		{`m := map{1: 1, 2: 2}; delete(m, 1);`, 4, `for k in m { m[k] = 2 }`, 1}, {`l := [1, 2];`, 2, `for i, v in l { }; for i in 3 { }; for i in "abc" { }`, 0},
		{``, 0, `x := S{s: 1}; y := x; x.s = 2`, 0}, {``, 0, `x := T{}`, 0}, {``, 0, `x := &S{}`, 2}, {``, 0, `x := &T{}`, 5}, {``, 0, `x := &T{a: S{}, S: S{s: S{}}}`, 7}, {`p := &S{};`, 2, `p.s = 5; *p = S{}; x := *p`, 0},
		{``, 0, `x := func() { }`, 1}, {``, 0, `x := f; x()`, 0}, {`a := 1; b := 2;`, 0, `x := func() { return a }`, 2}, {`a := 1; b := 2;`, 0, `x := func() { a = b; b++; a = 5 }`, 3},
		{`a := 1; b := 2;`, 0, `x := func(c) { d := 1; return func() { return a + c + d } }`, 2}, {`a := 1; b := 2;`, 0, `func(c) { d := 1; x := func() { return a + c + d } }(1)`, 6},
		{`a := 1; b := 2;`, 0, `func() { return func() { return func() { a = 1 } } }()`, 4},
		{`a := 1;`, 0, `func() { a := 2; x := func() { return a } }()`, 3}, {`a := 1;`, 0, `func() { x := a; { a := 5; a = 6 }; a, a = 1.(int) }()`, 2},
		{`x := S{};`, 0, `y := x.m`, 1}, {`x := S{};`, 0, `x.m()`, 0}, {`x := S{};`, 0, `y := x.m(); defer x.m()`, 0}, {`x := S{};`, 0, `y := S.m`, 1}, {`x := S{};`, 0, `y := S.m(x)`, 1}, {`x := S{};`, 0, `defer S.m(x)`, 1},
		{`p := &S{};`, 2, `y := p.n; y()`, 1}, {`p := &S{};`, 2, `y := (*S).n`, 1}, {`w := W{P: W{P: S{}}};`, 0, `y := w.m`, 1}, {`w := W{P: W{P: S{}}};`, 0, `y := w.m()`, 0}, {`w := W{P: S{}};`, 0, `y := W.m(w)`, 1}, {`x := T{a: f};`, 0, `y := x.a; x.a()`, 0},
		{``, 0, `print()`, 0}, {``, 0, `print("abc")`, 3}, {``, 0, `print("abc", 12, nil)`, 10}, {``, 0, `print(["a"])`, 6}, {``, 0, `x := show("abc")`, 5}, {``, 0, `x := show(nil)`, 3}, {``, 0, `x := typeof(1)`, 0},
		{`e := &fault{word: "ab", more: "cde"};`, 3, `x := e.Error()`, 6}, {`e := &fault{word: "ab"};`, 3, `x := e.Error()`, 2}, {`e := &fault{word: "ab", more: ""};`, 3, `x := e.Error()`, 2}, {`e := &fault{more: [1]};`, 4, `x := e.Error()`, 7},
		{`l := [1, 2];`, 2, `x := append(l)`, 0}, {`l := [1, 2];`, 2, `x := append(l, 3)`, 4}, {`l := [1, 2];`, 2, `x := append(l, 3, 4, 5)`, 5}, {`l := [1, 2];`, 2, `x := append(l[:1], 3)`, 0}, {`l := [1, 2];`, 2, `x := append(l[:1:1], 3)`, 2}, {`l := [1, 2];`, 2, `x := append(append(l, 3), 4)`, 4},
		{``, 0, `x := append(nil(list), 1)`, 1}, {``, 0, `x := append([], 1)`, 1}, {``, 0, `x := append(nil(L))`, 0}, {``, 0, `x := append(L([]), 1, 2, 3)`, 3},
		{`l := [1, 2]; k := make(7);`, 9, `x := copy(l, k)`, 2}, {`l := [1, 2]; k := make(7);`, 9, `x := copy(k, l)`, 2}, {`l := [1, 2]; k := make(7);`, 9, `x := copy(k, nil(list))`, 0}, {`l := [1, 2];`, 2, `x := l[:1]; y := list(L(l))`, 0},
		{``, 0, `func() { defer caught(); x := 1 + nil }()`, 4}, {``, 0, `func() { defer caught(); panic(nil) }()`, 4}, {``, 0, `func() { defer caught(); panic(1) }()`, 1}, {``, 0, `func() { defer caught(); x := map{[]: 1} }()`, 4},
		{``, 0, `func() { defer caught(); x := S{}.nobody }()`, 4}, {``, 0, `func() { defer caught(); x := W{}.m }()`, 4}, {``, 0, `func() { defer caught(); x := nil(*S).m }()`, 4}, {``, 0, `func() { defer caught(); x := T.nobody }()`, 4},
		{``, 0, `x, ok := 1.(text); y, is := map{}[1]; switch 1.(type) { case text: }`, 0}, {``, 0, `func() { defer caught(); x := 1.(text) }()`, 4},
		{``, 0, `m := nil(map); func() { defer caught(); m[1] = 2 }()`, 5}, {``, 0, `m := map{}; func() { defer caught(); m[1] += 2 }()`, 5},
	} {
		for left, end := range map[int]int{c.room: api.Done, c.room + 1: api.Done, c.room - 1: api.Full} {
			if left < 0 {
				continue
			}
			s := strings.Replace(withRoom(left, c.ahead, c.s), "USED", fmt.Sprint(c.used), 1)
			o, err := walk.Text(s, 1000, 20)
			if o.End != end || err != nil {
				t.Errorf("00: %s %s: with the room %d: %s", c.ahead, c.s, left, told(o, err))
			}
		}
	}
}

// What there is no room for is not seen, nor what would have come of it.
func TestFullFirst(t *testing.T) {
	for _, s := range []string{
		`print("abc")`, `print(show("abc"))`, `x := map{1: 2}; print(x)`, `panic(nil)`, `x := 1 + nil`, `defer print("no"); x := "ab" + "cd"`, `x := make(4)`, `m := map{}; m[1] = 2; print("no")`,
		`x := &fault{}; print("no")`, `l := [1, 2]; print("no")`, `f := func() { }; g := func() { }; print("no")`, `5()`, `f(1, 2)`, `x := S{}.nobody`,
	} {
		events := 0
		n := parsed(t, strings.Replace(withRoom(1, "", s), "USED", "0", 1))
		o, err := walk.Watch(n, 1000, 20, func(e api.Event) {
			if e.Kind >= 5 {
				events++
			}
		})
		if o.End != api.Full || err != nil || len(o.Out) > 0 || events > 0 {
			t.Errorf("00: %s: %s, %d events", s, told(o, err), events)
		}
	}
}

// Room is taken for good: what is not used any more takes it, too.
func TestRoomOfAll(t *testing.T) {
	for s, must := range map[string]string{
		`for i in 16 { make(65536) }`:          "done: ",
		`for i in 16 { make(65536) }; make(1)`: "full: ",
		`l := make(65536); for i in 4 { l = append(l, 1); l = l[:cap(l):cap(l)] }; print(cap(l))`: "full: ",
		`l := make(65536); for i in 2 { l = append(l, 1); l = l[:cap(l):cap(l)] }; print(cap(l))`: "done: 262144",
		`l := make(65536); for i in 8 { l = append(l, 1) }; print(len(l), cap(l))`:                "done: 65544 131072",
		`l := []; for { l = append(l, 1, 2, 3, 4, 5, 6, 7, 8, 9, 10) }`:                           "full: ",
		`m := map{}; for i in 524288 { m[i] = 1 }; print("x")`:                                    "spent: ",
		`s := "0123456789"; for i in 20000 { x := s + "" }`:                                       "done: ",
	} {
		want(t, "00", "func main() { "+s+" }", must)
	}
	o, err := walk.Text("func main() { m := map{}; for i in 400000 { m[i] = 1 }; print(len(m)) }", api.MaxFuel, 5)
	if told(o, err) != "done: 400000" {
		t.Errorf("00: a map that grows: %s", told(o, err))
	}
	wantMain(t, "00", "", `m := map{}; for i in 20000 { m[i] = i }; for i in 19999 { delete(m, i) }; print(m, len(m))`, "done: map{19999: 19999} 1")
}

// An append whose capacity would be above what there is at all.
func TestAppendIsFull(t *testing.T) {
	s := `func main() { l := make(65536); for i in 3 { l = append(l, 1); l = l[:cap(l)] }; print(cap(l)); l = append(l, 1) }`
	o, err := walk.Text(s, 100, 5)
	if told(o, err) != "done: 524288" && o.End != api.Full {
		t.Errorf("Order within: %s", told(o, err))
	}
	var many strings.Builder
	for range 9000 {
		many.WriteString(",x")
	}
	o, err = walk.Text("func main() { x := 1; l := []; for { l = append(l"+many.String()+"); l = l[:cap(l)] } }", 1000, 5)
	if o.End != api.Full || err != nil {
		t.Errorf("Order within: many at once: %s", told(o, err))
	}
}

// A line may be very long, and is Full as a whole; but what is too long in it is a fault ahead of that.
func TestLongLines(t *testing.T) {
	args := strings.Repeat("s, ", 15)
	double := `s := "a"; for i in 16 { s += s }; ` // takes 131070
	for _, c := range []row{
		{double + `print(` + args[:3*13] + `s[:100])`, "done"},
		{double + `print(` + args[:3*14] + `s)`, "full"},
		{double + `print(` + args[:3*14] + `s, [s])`, "panic"},
		{double + `print([s], ` + args[:3*14] + `s)`, "panic"},
		{double + `print(s)`, "done"},
		{double + `print([s[:65531]])`, "done"},
		{double + `print([s[:65533]])`, "panic"},
		{double + `x := show(s[:65534])`, "done"},
		{double + `x := show(s[:65535])`, "panic"},
		{double + `for i in 13 { make(65536) }; make(1000); x := show([s])`, "panic"},
		{double + `for i in 13 { make(65536) }; make(1000); x := show(s[:65500])`, "full"},
		{double + `for i in 13 { make(65536) }; make(1000); print(s, [s])`, "panic"},
		{double + `for i in 13 { make(65536) }; make(1000); e := &fault{word: s, more: s}; e.Error()`, "panic"},
		{double + `for i in 13 { make(65536) }; make(1000); x := s + s`, "count"},
	} {
		o, err := walk.Text("func main() { "+c.s+" }", 1000, 5)
		if c.must == "count" && toldError(err) == "<count|131072>" {
			continue
		}
		if endNames[o.End] != c.must || c.must == "panic" && toldError(err) != "<count|65537>" {
			t.Errorf("00: %s: %s", brief(c.s), brief(told(o, err)))
		}
	}
}
