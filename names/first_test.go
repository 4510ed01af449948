package names_test

import (
	"strings"
	"testing"

	"guise/api"
)

// Of two wrong things, one behind the other, the first is told, whichever they are.
func TestTheFirstIsTold(t *testing.T) {
	things := []struct {
		s    string // the mark is ahead of the node
		code api.Errno
		name string
	}{
		{"x := 1; ~x := 2", api.ErrTwice, "x"}, {"f := func(a, ~a) { }", api.ErrTwice, "a"}, {"y := fault{word: 1, ~word: 2}", api.ErrTwice, "word"},
		{"~q++", api.ErrUnknown, "q"}, {"y := ~q", api.ErrUnknown, "q"}, {"y := ~q{}", api.ErrUnknown, "q"}, {"y := fault{~q: 1}", api.ErrUnknown, "q"},
		{"~main = 1", api.ErrUse, "main"}, {"y := ~int", api.ErrUse, "int"}, {"~int(1)", api.ErrUse, "int"}, {"y := 1.(~print)", api.ErrUse, "print"}, {"y := ~int{}", api.ErrUse, "int"},
		{"L: for { ~L: for { } }", api.ErrLabel, "L"}, {"~break", api.ErrLabel, ""}, {"for { ~continue M }", api.ErrLabel, "M"}, {"~fallthrough", api.ErrLabel, ""},
	}
	for _, one := range things {
		for _, two := range things {
			end := "{ " + strings.Replace(two.s, "~", "", 1) + " }"
			wrong(t, in("{ "+one.s+" }; "+end), one.code, one.name)
			wrong(t, "func f() { "+one.s+" }\n"+in(end), one.code, one.name)
			wrong(t, "var f = func() { "+one.s+" }\nfunc (r T) m() "+end+"\n"+in(""), one.code, one.name)
			wrong(t, in("f := [func() { "+one.s+" }, func() "+end+"]"), one.code, one.name)
			wrong(t, in("if func() { "+one.s+" } "+end+" else "+end), one.code, one.name)
			wrong(t, in("switch { case func() { "+one.s+" }: "+end+" }"), one.code, one.name)
			wrong(t, in("for i in func() { "+one.s+" } "+end), one.code, one.name)
		}
		wrong(t, in(one.s)+"\nvar main = 1", one.code, one.name)
		wrong(t, in("")+"\n~var main = func() { "+strings.Replace(one.s, "~", "", 1)+" }", api.ErrTwice, "main")
		wrong(t, "func f() { "+one.s+" }\nfunc main(a) { }", one.code, one.name)
		if one.name != "main" {
			wrong(t, "func f() { "+one.s+" }", one.code, one.name)
		}
	}
}

// A node is told ahead of what stands in it, and Kids in their order.
func TestTheOrderWithinAStatement(t *testing.T) {
	all(t, api.ErrTwice, `
		func main() { x := 1; ~x := q }
		func main() { x, ~x := q[1] }
		func main() { x := 1; ~x, y := q[1] }
		func main() { for i, ~i in q { } }
		func main() { x := fault{word: 1, ~word: q} }
		func main() { x := fault{word: 1, ~word: 2, q: 3} }
		func main() { } | ~var main = q
		func main() { } | ~func main() { q++ }
		func main() { } | ~func int(a, a) { }
		func f(a, ~a) { q++ } | func main() { }
	`)
	all(t, api.ErrUnknown, `
		func main() { ~q = p }
		func main() { ~q, p = r[1] }
		func main() { x := 1; x, ~p = r[1] }
		func main() { ~q(p) }
		func main() { int(~q) } | func int() { }
		func main() { x := ~q{word: p} }
		func main() { x := fault{word: ~q, word: 1} }
		func main() { x := fault{~q: p} }
		func main() { x := fault{word: ~q, p: 1} }
		func main() { x := ~q.(p) }
		func main() { x := ~q[p] }
		func main() { x := ~q[p:r:s] }
		func main() { x := ~q + p }
		func main() { x := map{~q: p} }
		func main() { if ~q { p++ } else { r++ } }
		func main() { for ~q { p++ } }
		func main() { for i in ~q { i := 1; i := 2 } }
		func main() { for i in 3 { ~q++; i := 1; i := 2 } }
		func main() { switch ~q { case p: r++ } }
		func main() { switch ~q.(type) { case p: r++ } }
		func main() { switch v := 1.(type) { case ~q: v := r } }
		func main() { x := func(a) { ~q++; a := 1 } }
		func f() { ~q++ } | func f() { } | func main() { }
	`)
	all(t, api.ErrUse, `
		func main() { x := ~int(q, 1) }
		func main() { ~int(q) }
		func main() { x := ~int{q: p} }
		func main() { x := ~int{a: 1, a: 2} }
		func main() { ~print = q }
		func main() { x := ~int + q }
		func main() { x := ~error(q) }
	`)
	all(t, api.ErrLabel, `
		func main() { L: for { ~L: for q { } } }
		func main() { L: for { ~L: for i, i in q { } } }
		func main() { L: for { ~L: switch q { } } }
		func main() { L: for { ~L: switch q.(type) { } } }
	`)
}

// The first declaration of a name is meant, also where a second one is told later.
func TestWhichDeclarationIsMeant(t *testing.T) {
	all(t, api.ErrUse, `
		func main() { ~f = 1 } | func f() { } | var f = 1
		func main() { x := ~T{} } | type T = int | type T struct { }
		func main() { x := nil(~list) } | type list = int
		func main() { x := ~fault{} } | type fault = int
		func main() { x := ~text(1) } | type text struct { }
		func main() { x := 1.(~int) } | func int() { }
	`)
	all(t, api.ErrTwice, `
		func main() { f = 1 } | var f = 1 | ~func f() { }
		func main() { x := T{} } | type T struct { } | ~type T = int
		func main() { x := T{a: 1} } | type T struct { a } | ~type T struct { b }
		func main() { int = 1 } | ~var int = 1
		func main() { x := int } | ~func int() { }
		func main() { x := nil(int) } | ~type int = list
		func main() { x := int{a: 1} } | ~type int struct { a }
		func main() { x := fault{a: 1} } | ~type fault struct { a }
		func main() { x := nil(*int) } | ~type int struct { }
	`)
	all(t, api.ErrUnknown, `
		func main() { x := T{~b: 1} } | type T struct { a } | type T struct { b }
		func main() { x := fault{~word: 1} } | type fault struct { a }
	`)
}
