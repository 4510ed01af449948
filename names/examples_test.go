package names_test

import (
	"testing"

	"guise/api"
)

// The examples at the chapter's end. (Where one names no main, an empty one stands behind it.)
func TestExamples(t *testing.T) {
	want(t, in("x := 1; y := x"), "1 main func 0, 4 x local 0, 6 y local 1, 7 x local 0; 1 has 2")

	wrong(t, in("x := ~x"), api.ErrUnknown, "x")
	want(t, "var x = 1\n"+in("x := x"), "1 x global 0, 3 main func 0, 6 x local 0, 7 x global 0; 3 has 1")

	wrong(t, "~func main(a) { }", api.ErrMain, "main")
	wrong(t, "~func f() { }", api.ErrMain, "main")

	behind := "\n" + in("")
	wrong(t, "func f(a) { ~a := 1 }"+behind, api.ErrTwice, "a")
	want(t, "func f(a) { { a := 1 } }"+behind, "1 f func 0, 3 a local 0, 6 a local 1, 8 main func 1; 1 has 2, 8 has 0")

	want(t, in("for i in 3 { i := i }"), "1 main func 0, 5 i local 0, 9 i local 1, 10 i local 0; 1 has 2")

	want(t, in("x := 1; f := func() { x = 2 } ; f()"),
		"1 main func 0, 4 x local 0, 6 f local 1, 11 x local 0^1, 15 f local 1; 1 has 2 *0, 7 has 0")

	wrong(t, in("~int = 1"), api.ErrUse, "int")
	wrong(t, in("~print = 1"), api.ErrUse, "print")
	fine(t, in("print := 1"))
	wrong(t, in("x := ~int"), api.ErrUse, "int")
	wrong(t, in("x := ~print"), api.ErrUse, "print")

	wrong(t, in("~int(1, 2)"), api.ErrUse, "int")
	wrong(t, in("x := 1; y := ~error(x)"), api.ErrUse, "error")
	wrong(t, in("x := 1; ~list(x)"), api.ErrUse, "list")
	wrong(t, in("x := 1; y := ~fault(x)"), api.ErrUse, "fault")

	wrong(t, in("e := 1; x := e.(*~int)"), api.ErrUse, "int")
	wrong(t, in("x := nil(~int)"), api.ErrUse, "int")
	fine(t, in("x := nil(*fault)"))
	fine(t, in("x := nil(map)"))
	wrong(t, in("x := ~error.Error"), api.ErrUse, "error")
	fine(t, in("x := (*fault).Error"))

	wrong(t, in("x := fault{word: 1, ~word: 2}"), api.ErrTwice, "word")
	wrong(t, in("x := fault{~x: 1}"), api.ErrUnknown, "x")
	wrong(t, in("x := ~int{}"), api.ErrUse, "int")

	fine(t, in("switch 1 { case 1: fallthrough; case 2: }"))
	wrong(t, in("switch 1 { case 1: ~fallthrough }"), api.ErrLabel, "")
	wrong(t, in("for { f := func() { ~break } }"), api.ErrLabel, "")

	wrong(t, in("L: for { ~L: for { } }"), api.ErrLabel, "L")
	fine(t, in("L: for { }; L: for { }"))
	wrong(t, in("L: switch { default: ~continue L }"), api.ErrLabel, "L")
}

// The programs of the document's examples are fine, as far as names go.
func TestExamplesOfTheWhole(t *testing.T) {
	for _, s := range []string{
		`func main() { print(1 + 2, "a" + "b", [1, "x", nil]) }`,
		"type P struct { x }\nfunc (p *P) get() { if p == nil(*P) { return \"none\" }; return p.x }\nfunc main() { q := nil(*P); print(q == nil, q.get()) }",
		"protocol Sound { say(0) }\ntype Dog struct { name }\nfunc (d Dog) say() { return d.name }\ntype Pup struct { .*Dog }\nfunc main() { s, ok := Pup{}.(Sound); print(ok); print(Pup{Dog: &Dog{name: \"Rex\"}}.(Sound).say()) }",
		`func main() { x := "a"; y := x.(int) }`,
		`func main() { defer func() { e := recover(); switch v := e.(type) { case error: print(v.Error()) } }(); print([1] == [1]) }`,
		`func main() { m := map{1: "a"}; m[[1]] = 2 }`,
		"func f() { defer func() { recover() }(); panic(\"x\") }\nfunc main() { print(f()) }",
		`func main() { l := []; for i in 3 { l = append(l, func() { return i }) }; for j, f in l { print(f()) } }`,
		`func main() { for { } }`,
		`func main() { a := make(2); b := a[0:1]; b = append(b, 7); print(a) }`,
	} {
		fine(t, s)
	}
}
