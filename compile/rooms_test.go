package compile_test

import (
	"fmt"
	"testing"

	"guise/api"
)

// filling leaves so much room, less what was taken ahead of it.
const filling = `
type T struct { x }
func (t *T) get() { }
func (t T) val() { }
func fill(left) { s := "ab"; for len(s) < 65536 { s += s }; for _ in 13 { x := s + "" }; x := s[left:] + ""; make(4) }
`

// What takes room takes as much in code: each of these is played from no room on, to more than it needs.
func TestRooms(t *testing.T) {
	t.Parallel()
	for _, s := range []string{
		"x := func() { }",
		"x := func() { return a }",
		"x := func() { a = b; b = a; return func() { return c } }",
		"x := func() { return func() { return func() { return [a, b, c] } } }()()",
		"func() { }()",
		"defer func() { a = 1 }()",
		"x := p.get",
		"x := p.val",
		"p.get()",
		"defer p.get()",
		"x := p.val()",
		"x := T.val; x(T{})",
		"T.val(T{})",
		"defer T.val(T{})",
		"x := (*T).get",
		"x := main",
		"x := [1, 2, 3]",
		"x := [[1], []]",
		"x := map{1: 2, 3: 4, 1: 5}",
		"x := T{x: T{x: 1}}",
		"x := &T{x: T{x: 1}}",
		"a += \"xyz\"",
		"x := \"xyz\" + \"\"",
		"x := append([1, 2], 3)",
		"b[0] = 1; b[0] = 2; b[1] = 5",
		"copy([1, 2], [3, 4])",
		"for k in map{1: 2, 3: 4} { }",
		"b[1] = 2; for k in b { for j in b { } }",
		"print(\"abc\", 1)",
		"x := show([1, 2])",
		"1()",
		"x := [1][5]",
		"switch a { case func() { return b }(): x := [1]; default: x := [1, 2] }",
		"switch x := (&T{}).(type) { case int: y := [1]; case *T: y := [1, 2, 3] }",
		"switch { case len([1, 2]) == 2: x := [1] }",
		"T.val = [1, 2]",
		"T.val.x++",
		"T.val[0] = [1]",
		"a, c = [a].(list)",
		"p.x = [1]",
		"*p = T{x: [1]}",
		"p.x = [p.get, T.val]",
		"defer T.get(a)",
		"x := (&fault{word: \"ab\", more: 1}).Error()",
	} {
		ends := map[int]int{}
		for left := range 28 {
			text := fmt.Sprintf("%sfunc main() { a := \"a\"; b := map{}; c := 1; p := &T{}; fill(%d); %s }", filling, left, s)
			ends[compiled(t, text, parsed(t, text)).alike(t, muchFuel, muchDepth).End]++
		}
		if ends[api.Full] == 0 || ends[api.Full] == 28 {
			t.Errorf("%s: it ended without room %d times of 28", s, ends[api.Full])
		}
	}
}
