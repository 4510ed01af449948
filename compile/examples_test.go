package compile_test

import (
	"fmt"
	"strings"
	"testing"

	"guise/api"
	"guise/code"
	"guise/compile"
)

// shortOf is a function's code, by the operations' names, with what A and Text say, if that is something.
func shortOf(t *testing.T, p code.Program, number int) string {
	t.Helper()
	list, err := code.List(p)
	if err != nil {
		t.Fatal(err)
	}
	var out []string
	function := -1
	for _, line := range strings.Split(list, "\n") {
		if strings.HasPrefix(line, "func ") {
			function++
		}
		if words := strings.Fields(line); function == number && strings.HasPrefix(line, "\t") {
			out = append(out, strings.TrimSuffix(words[0]+" "+words[1], " 0")+strings.Join(words[4:], " "))
		}
	}
	return strings.Join(out, "; ")
}

func compiledText(t *testing.T, s string) code.Program {
	t.Helper()
	p, err := compile.Text(s)
	if err != nil {
		t.Fatalf("%s: %v", brief(s), err)
	}
	return p
}

func TestExamples(t *testing.T) {
	t.Parallel()
	empty := compiledText(t, "func main() { }")
	if got := shortOf(t, empty, 0); len(empty.Funcs) != 2 || !strings.HasPrefix(got, "literal 1; call; ") {
		t.Errorf("C2: the beginning is %s", got)
	}
	if got := shortOf(t, empty, 1); got != "nil; return" {
		t.Errorf("main is %s", got)
	}
	counted := compiledText(t, "var x = 1\nfunc main() { x++ }")
	if got := shortOf(t, counted, 0); fmt.Sprint(counted.Globals) != "[x]" || !strings.HasPrefix(got, `step; int"1"; storeglobal; literal 1; call; `) {
		t.Errorf("C2: the beginning is %s", got)
	}
	if got := shortOf(t, counted, 1); got != `step; placeglobal; fetch; unary"++"; put; nil; return` {
		t.Errorf("main is %s", got)
	}
	loop := shortOf(t, compiledText(t, "func main() { for i in 3 { if i == 1 { break }; print(i) } }"), 1)
	for _, piece := range []string{`int"3"; turn; jump `, "; tick; ", "; step; drop 1; jump "} {
		if !strings.Contains(loop, piece) {
			t.Errorf("the loop has no %s: %s", piece, loop)
		}
	}
	within := compiledText(t, "func (t T) m() {}\ntype T struct {}\nfunc main() { f := func() {} }")
	if got := headsOf(within); got != "0 -1|T.m 1 -1|main 0 -1|func 0 2" {
		t.Errorf("C2: %s", got)
	}
	for s, must := range map[string]string{
		"func main() { x }":        `30 at 16 "}"`,
		"func main() { return x }": `41 at 21 "x"`,
		"func f() {}":              `44 at 0 "main"`,
	} {
		if _, err := compile.Text(s); wrongText(err) != must {
			t.Errorf("C1: %s: %s; must be %s", s, wrongText(err), must)
		}
	}
}

// headsOf is a program's functions: their names, parameters, and in which one they stand.
func headsOf(p code.Program) string {
	var out []string
	for _, f := range p.Funcs {
		out = append(out, strings.TrimSpace(fmt.Sprint(f.Name, " ", f.Params, " ", f.Around)))
	}
	return strings.Join(out, "|")
}

// The examples of the whole (DOC.md), both ways.
func TestExamplesOfTheWhole(t *testing.T) {
	t.Parallel()
	for _, x := range []struct{ s, must string }{
		{`func main() { print(1 + 2, "a" + "b", [1, "x", nil]) }`, `done: 3 ab [1, "x", nil]`},
		{"type P struct { x }\nfunc (p *P) get() { if p == nil(*P) { return \"none\" }; return p.x }\nfunc main() { q := nil(*P); print(q == nil, q.get()) }", "done: false none"},
		{"protocol Sound { say(0) }\ntype Dog struct { name }\nfunc (d Dog) say() { return d.name }\ntype Pup struct { .*Dog }\nfunc main() { s, ok := Pup{}.(Sound); print(ok); print(Pup{Dog: &Dog{name: \"Rex\"}}.(Sound).say()) }", "done: true|Rex"},
		{`func main() { x := "a"; y := x.(int) }`, `panic: <conversion|text is not int>`},
		{`func main() { defer func() { e := recover(); switch v := e.(type) { case error: print(v.Error()) } }(); print([1] == [1]) }`, "done: compare list"},
		{`func main() { m := map{1: "a"}; m[[1]] = 2 }`, "panic: <key|list>"},
		{"func f() { defer func() { recover() }(); panic(\"x\") }\nfunc main() { print(f()) }", "done: nil"},
		{`func main() { l := []; for i in 3 { l = append(l, func() { return i }) }; for j, f in l { print(f()) } }`, "done: 0|1|2"},
		{`func main() { a := make(2); b := a[0:1]; b = append(b, 7); print(a) }`, "done: [nil, 7]"},
	} {
		want(t, x.s, x.must)
	}
	if s := compiled(t, "", parsed(t, "func main() { for { } }")).alike(t, 10, 1); s.End != api.Spent || s.Steps != 10 {
		t.Errorf("C3: %s", s)
	}
}
