package parse_test

import (
	"math/rand/v2"
	"strings"
	"testing"

	"guise/api"
	"guise/lex"
	"guise/tree"
)

// wantSame reads a text, and holds the tree against another, without places.
func (f form) wantSame(t *testing.T, s string, want api.Node) {
	t.Helper()
	n, err := f.read(s)
	if err != nil || !tree.Same(n, want) {
		t.Errorf("%s(%q): %v, %s, must be %s", f.name, s, err, told(n), told(want))
	}
}

// backAgain reads what tree.Print writes of a right tree, unless that is too long.
func backAgain(t *testing.T, as form, n api.Node) {
	t.Helper()
	s, err := tree.Print(n)
	if err != nil {
		t.Fatalf("Print of %s: %v", told(n), err)
	}
	if as.name == "Statements" {
		n = node(api.NBlock, "", n)
	}
	as.wantSame(t, s, n)
}

func TestThereAndBack(t *testing.T) {
	g := grower{dice(7)}
	for range 2000 {
		backAgain(t, program, g.program(g.IntN(8)))
		backAgain(t, expression, g.expr(g.IntN(8)))
		backAgain(t, statements, g.statement(g.IntN(8)))
		backAgain(t, program, node(api.NProgram, "", g.declaration(g.IntN(8)), g.declaration(2)))
	}
}

// Statements behind one another are read as they are one by one.
func TestStatementsThereAndBack(t *testing.T) {
	g := grower{dice(8)}
	for range 1000 {
		n := g.block(g.IntN(7))
		var lines []string
		for _, kid := range n.Kids {
			s, err := tree.Print(kid)
			if err != nil {
				t.Fatal(err)
			}
			lines = append(lines, s)
		}
		statements.wantSame(t, strings.Join(lines, "\n"), n)
		statements.wantSame(t, strings.Join(lines, ";"), n)
	}
}

// What was read is written, and read again.
func TestPrintOfWhatWasRead(t *testing.T) {
	g := grower{dice(9)}
	for range 1500 {
		text, _ := written(g, program, g.program(g.IntN(7)))
		n, err := program.read(text)
		if err != nil {
			t.Fatalf("%q: %v", text, err)
		}
		backAgain(t, program, n)
	}
	for _, c := range formTexts {
		n, err := c.as.read(c.s)
		if err != nil {
			t.Fatalf("%q: %v", c.s, err)
		}
		switch c.as.name {
		case "Statements":
			for _, kid := range n.Kids {
				backAgain(t, c.as, kid)
			}
		default:
			backAgain(t, c.as, n)
		}
	}
}

// What may be put in, one by one: the tree stays, but for places.
func TestWhatChangesNoTree(t *testing.T) {
	for _, c := range []struct {
		as    form
		plain string
		same  []string
	}{
		{program, "func f(a, b) { }", []string{"func f(a, b,) { }", "\tfunc\tf ( a , b ) { } ", "func f(\na,\nb,\n) {\n}\n", ";;func f(a, b) {;;};;",
			"// x\nfunc f( // y\na, b) { // z\n} // end"}},
		{program, "type T struct { a; b }", []string{"type T struct { a\nb }", "type T struct {; a;; b; }", "type T struct {\n\na\n\nb\n\n}\n"}},
		{program, "protocol P { m(1); Q }", []string{"protocol P {; m(1)\nQ; }", "protocol\nP {\nm(\n1)\n// x\nQ\n}"}},
		{program, "var x = a + b * c", []string{"var x = (a + b * c)", "var x = a + (b * c)", "var x = (a) + ((b)) * (((c)))", "var x =\na +\nb *\nc"}},
		{statements, "x = f(a, [b], map{c: d}, T{e: f})", []string{"x = f(a, [b,], map{c: d,}, T{e: f,},)", "x = f((a), ([b]), (map{(c): (d)}), (T{e: (f)}))",
			"(x) = (f)(a, [b], map{c: d}, T{e: f})"}},
		{statements, "switch x { case a, b: f() default: g() }", []string{"switch (x) {;; case (a), (b),:; f();; default:\ng();}", "switch x { case a, b: f(); default: g(); }"}},
		{statements, "switch e.(type) { case T, nil: }", []string{"switch (e).(type) { case T, nil,: }", "switch e . ( type ) {\ncase T,\nnil:\n}"}},
		{statements, "f(); g()", []string{"f()\ng()", ";f();;g();", "\n\nf()\n\n\ng() // x", "(f()); ((g()))"}},
		{statements, "if a { f() } else { g() }", []string{"if (a) {; f(); } else {\ng()\n}", "if\na {\nf()\n} else {\ng()\n}"}},
		{statements, "x, y := a[0]", []string{"x, y := (a[0])", "x, y := (a)[(0)]", "x,\ny :=\na[\n0]"}},
		{statements, "for i, v in l { }", []string{"for i, v in (l) { }", "for\ni,\nv in\nl {\n}"}},
		{statements, "for i in l { }", []string{"for i, _ in l { }"}},
		{expression, "a[b:c:d]", []string{"a[(b):(c):(d)]", "(a)[b:c:d]", "(a[b:c:d])", "a[\nb:\nc:\nd]\n", "a[b:c:d];;"}},
		{expression, "-a.b(c).(T)", []string{"-(a.b(c).(T))", "-((a.b)(c)).(T)", "(-a.b(c).(T))", "-a.\nb(\nc).(\nT)", "- a . b ( c ) . ( T )"}},
		{expression, "&T{a: nil(*U)}", []string{"(&T{a: nil(*U)})", "&T{a: (nil(*U)),}", "&\nT{\na:\nnil(\n*\nU)}"}},
	} {
		want, err := c.as.read(c.plain)
		if err != nil {
			t.Errorf("%q: %v", c.plain, err)
			continue
		}
		for _, s := range c.same {
			c.as.wantSame(t, s, want)
		}
	}
}

// goesOn tells whether a text of some tokens can go on with one more.
func goesOn(t *testing.T, text, word string) bool {
	t.Helper()
	told := program.told(t, text+" "+word)
	tokens, _ := lex.Scan(text + " " + word)
	ahead, _ := lex.Scan(text + " ;")
	k := tokens[len(ahead)-1]
	return told != wrongAt(k.At, k.Text)
}

// finish puts tokens behind a text until Program takes it.
func finish(t *testing.T, r *rand.Rand, text string) string {
	t.Helper()
	for range 300 {
		if told := program.told(t, text); !strings.HasPrefix(told, "!token") {
			return text
		}
		words := []string{")", "]", "}", ";"}
		if r.IntN(4) == 0 {
			words = nil
		}
		for _, i := range r.Perm(len(vocabulary)) {
			words = append(words, vocabulary[i])
		}
		for _, word := range words {
			if goesOn(t, text, word) {
				text += " " + word
				break
			}
		}
	}
	t.Errorf("%q does not come to an end that Program takes", text)
	return text
}

// What stands ahead of the place of an ErrToken is the beginning of a text that Program takes.
func TestWhatStandsAheadGoesOn(t *testing.T) {
	g := grower{dice(10)}
	for range 120 {
		s := inOneLine(changed(g.Rand, someTokens(g, program, g.IntN(7))))
		_, err := program.read(s)
		w, wrong := err.(*api.Wrong)
		if !wrong || w.Code != api.ErrToken {
			continue
		}
		finish(t, g.Rand, s[:w.At])
	}
}
