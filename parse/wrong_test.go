package parse_test

import (
	"math/rand/v2"
	"slices"
	"strings"
	"testing"

	"guise/api"
	"guise/lex"
)

// Texts that are wrong, by hand: the place is that of the first token with which nothing goes on.
func TestWrongTexts(t *testing.T) {
	for _, c := range []struct {
		as      form
		s, want string
	}{
		{program, "x := 1", "!token@0 x"},
		{program, "func f() { } func g() { }", "!token@13 func"},
		{program, "func f() {", "!token@10"},
		{program, "func f() { };}", "!token@13 }"},
		{program, "type", "!token@4"},
		{program, "type _ = int", "!token@5 _"},
		{program, "type T = any", "!token@9 any"},
		{program, "type T = *T", "!token@9 *"},
		{program, "type T = nil", "!token@9 nil"},
		{program, "type T =\n", "!token@9"},
		{program, "type T { }", "!token@7 {"},
		{program, "type T struct { a b }", "!token@18 b"},
		{program, "type T struct { * }", "!token@16 *"},
		{program, "type T struct { ._ }", "!token@17 _"},
		{program, "type T struct { m(1) }", "!token@17 ("},
		{program, "protocol P { .Q }", "!token@13 ."},
		{program, "protocol P { m(a) }", "!token@15 a"},
		{program, "protocol P { m(1.5) }", "!token@15 1.5"},
		{program, "protocol P { m() }", "!token@15 )"},
		{program, "protocol P = Q", "!token@11 ="},
		{program, "func f(a b) { }", "!token@9 b"},
		{program, "func f(,) { }", "!token@7 ,"},
		{program, "func f(a,,) { }", "!token@9 ,"},
		{program, "func f(_) { }", "!token@7 _"},
		{program, "func f() ; { }", "!token@9"},
		{program, "func f()\n{ }", "!token@8"},
		{program, "func () m() { }", "!token@6 )"},
		{program, "func (t) m() { }", "!token@7 )"},
		{program, "func (t *) m() { }", "!token@9 )"},
		{program, "func (t map) m() { }", "!token@8 map"},
		{program, "func (t T) (a) { }", "!token@11 ("},
		{program, "func (t T,) m() { }", "!token@9 ,"},
		{program, "func() { }", "!token@5 )"},
		{program, "var x", "!token@5"},
		{program, "var x := 1", "!token@6 :="},
		{program, "var x = ", "!token@8"},
		{program, "var x = 1 2", "!token@10 2"},

		{statements, "_ := 1", "!token@0 _"},
		{statements, "_ = 1", "!token@0 _"},
		{statements, "x", "!token@1"},
		{statements, "x }", "!token@2 }"},
		{statements, "f() }", "!token@4 }"},
		{statements, "f() case", "!token@4 case"},
		{statements, "f() g()", "!token@4 g"},
		{statements, "{ f() case 1: }", "!token@6 case"},
		{statements, "(x) := 1", "!token@4 :="},
		{statements, "(x), y := a[0]", "!token@3 ,"},
		{statements, "x, _ := a[0]", "!token@3 _"},
		{statements, "x, y, z := a[0]", "!token@4 ,"},
		{statements, "x, y += a[0]", "!token@5 +="},
		{statements, "x, y := -a[0]", "!token@8 -"},
		{statements, "x, y := &T{}", "!token@8 &"},
		{statements, "x, y := a[1:2]", "!token@14"},
		{statements, "x, y := a[1];", "Block@0(DefineTwo@0(Name:x@0 Name:y@3 Index@9(Name:a@8 Int:1@10)))"},
		{statements, "x, y := f()", "!token@11"},
		{statements, "x, y := (a + b) }", "!token@16 }"},
		{statements, "true = 1", "!token@5 ="},
		{statements, "false++", "!token@5 ++"},
		{statements, "nil = 1", "!token@4 ="},
		{statements, "(nil) = 1", "!token@6 ="},
		{statements, "map = 1", "!token@4 ="},
		{statements, "1 = 1", "!token@2 ="},
		{statements, "[1] = 1", "!token@4 ="},
		{statements, "a[1:2] = 1", "!token@7 ="},
		{statements, "e.(T) = 1", "!token@6 ="},
		{statements, "nil(T) = 1", "!token@7 ="},
		{statements, "T{} = 1", "!token@4 ="},
		{statements, "(a + b) = 1", "!token@8 ="},
		{statements, "(-a) = 1", "!token@5 ="},
		{statements, "(&T{}) = 1", "!token@7 ="},
		{statements, "f()++", "!token@3 ++"},
		{statements, "-a = 1", "!token@0 -"},
		{statements, "!a", "!token@0 !"},
		{statements, "&T{}", "!token@0 &"},
		{statements, "*f()", "!token@4"},
		{statements, "*a + b", "!token@3 +"},
		{statements, "x = 1 = 2", "!token@6 ="},
		{statements, "x++ + 1", "!token@4 +"},
		{statements, "x := y := z", "!token@7 :="},
		{statements, "x { }", "!token@5"},
		{statements, "L: x++", "!token@3 x"},
		{statements, "L: M: for { }", "!token@3 M"},
		{statements, "L: if a { }", "!token@3 if"},
		{statements, "L: ; for { }", "!token@3"},
		{statements, "(L): for { }", "!token@3 :"},
		{statements, "_: for { }", "!token@0 _"},
		{statements, "if { }", "!token@3 {"},
		{statements, "if a { }\nelse { }", "!token@9 else"},
		{statements, "if a { } else f()", "!token@14 f"},
		{statements, "if a { } else for { }", "!token@14 for"},
		{statements, "if &T{} { }", "!token@3 &"},
		{statements, "if a && &T{} { }", "!token@8 &"},
		{statements, "if x := a { }", "!token@5 :="},
		{statements, "if a; b { }", "!token@4"},
		{statements, "if map { }", "!token@10"},
		{statements, "for _ { }", "!token@6 {"},
		{statements, "for i, { }", "!token@7 {"},
		{statements, "for i, v { }", "!token@9 {"},
		{statements, "for i, v, w in l { }", "!token@8 ,"},
		{statements, "for (i) in l { }", "!token@8 in"},
		{statements, "for i in { }", "!token@9 {"},
		{statements, "for i in T{} { }", "!token@13 {"},
		{statements, "for i := 0; i < 3; i++ { }", "!token@6 :="},
		{statements, "for 1 in l { }", "!token@6 in"},
		{statements, "switch -e.(type) { }", "!token@11 type"},
		{statements, "switch a + e.(type) { }", "!token@14 type"},
		{statements, "switch (e.(type)) { }", "!token@11 type"},
		{statements, "switch e.(type).f { }", "!token@15 ."},
		{statements, "switch e.(type) + 1 { }", "!token@16 +"},
		{statements, "switch v := a + b { }", "!token@14 +"},
		{statements, "switch v := e { }", "!token@14 {"},
		{statements, "switch v := e.(T) { }", "!token@18 {"},
		{statements, "switch v := T{}.(type) { }", "!token@13 {"},
		{statements, "switch v := -e.(type) { }", "!token@12 -"},
		{statements, "switch v := &T{} { }", "!token@12 &"},
		{statements, "switch _ := e.(type) { }", "!token@7 _"},
		{statements, "switch (v) := e.(type) { }", "!token@11 :="},
		{statements, "switch v = e.(type) { }", "!token@9 ="},
		{statements, "switch x { f() }", "!token@11 f"},
		{statements, "switch x { case: }", "!token@15 :"},
		{statements, "switch x { case ,: }", "!token@16 ,"},
		{statements, "switch x { case 1 }", "!token@18 }"},
		{statements, "switch x { default 1: }", "!token@19 1"},
		{statements, "switch x { case nil(T): case *T: case map: }", "!token@41 :"},
		{statements, "switch e.(type) { case 1: }", "!token@23 1"},
		{statements, "switch e.(type) { case nil(T): }", "!token@26 ("},
		{statements, "switch e.(type) { case *map: }", "!token@24 map"},
		{statements, "switch e.(type) { case true: }", "!token@23 true"},
		{statements, "switch e.(type) { case (T): }", "!token@23 ("},
		{statements, "return )", "!token@7 )"},
		{statements, "return }", "!token@7 }"},
		{statements, "return 1, 2", "!token@8 ,"},
		{statements, "defer f", "!token@7"},
		{statements, "defer f() + 1", "!token@10 +"},
		{statements, "defer -f()", "!token@6 -"},
		{statements, "defer a[0] }", "!token@11 }"},
		{statements, "break _", "!token@6 _"},
		{statements, "break 1", "!token@6 1"},
		{statements, "continue L M", "!token@11 M"},
		{statements, "fallthrough L", "!token@12 L"},
		{statements, "else", "!token@0 else"},
		{statements, "case 1:", "!token@0 case"},
		{statements, "default:", "!token@0 default"},
		{statements, "type T = int", "!token@0 type"},
		{statements, "func f() { }", "!token@5 f"},

		{expression, "", "!token@0"},
		{expression, " // a\n", "!token@6"},
		{expression, ";a", "!token@0"},
		{expression, "a b", "!token@2 b"},
		{expression, "a; b", "!token@3 b"},
		{expression, "a\n+ b", "!token@2 +"},
		{expression, "a \"b\"", "!token@2 b"},
		{expression, "a +", "!token@3"},
		{expression, "a + + b", "!token@4 +"},
		{expression, "(a", "!token@2"},
		{expression, "(a;)", "!token@2"},
		{expression, "()", "!token@1 )"},
		{expression, "(a,)", "!token@2 ,"},
		{expression, "a)", "!token@1 )"},
		{expression, "[,]", "!token@1 ,"},
		{expression, "[a,,]", "!token@3 ,"},
		{expression, "[a b]", "!token@3 b"},
		{expression, "f(,)", "!token@2 ,"},
		{expression, "f(a,,)", "!token@4 ,"},
		{expression, "map", "!token@3"},
		{expression, "map[0]", "!token@3 ["},
		{expression, "map.x", "!token@3 ."},
		{expression, "(map)(a)", "!token@4 )"},
		{expression, "map{a}", "!token@5 }"},
		{expression, "map{,}", "!token@4 ,"},
		{expression, "map{a: b c}", "!token@9 c"},
		{expression, "T{a}", "!token@3 }"},
		{expression, "T{1: a}", "!token@2 1"},
		{expression, "T{_: a}", "!token@2 _"},
		{expression, "T{(a): b}", "!token@2 ("},
		{expression, "_{}", "!token@0 _"},
		{expression, "(T){}", "!token@3 {"},
		{expression, "a.T{}", "!token@3 {"},
		{expression, "&a", "!token@2"},
		{expression, "&a.b", "!token@2 ."},
		{expression, "&(T{})", "!token@1 ("},
		{expression, "&T{}.x", "!token@4 ."},
		{expression, "&&T{}", "!token@0 &&"},
		{expression, "& &T{}", "!token@2 &"},
		{expression, "&T{}()", "!token@4 ("},
		{expression, "func", "!token@4"},
		{expression, "func f() { }", "!token@5 f"},
		{expression, "func(a) ", "!token@8"},
		{expression, "nil()", "!token@4 )"},
		{expression, "nil(1)", "!token@4 1"},
		{expression, "nil(any)", "!token@4 any"},
		{expression, "nil(*any)", "!token@5 any"},
		{expression, "nil(nil)", "!token@4 nil"},
		{expression, "nil(T,)", "!token@5 ,"},
		{expression, "nil((T))", "!token@4 ("},
		{expression, "e.(type)", "!token@3 type"},
		{expression, "e.(nil)", "!token@3 nil"},
		{expression, "e.(**T)", "!token@4 *"},
		{expression, "e.()", "!token@3 )"},
		{expression, "a._", "!token@2 _"},
		{expression, "a.1", "!token@2 1"},
		{expression, "a.map", "!token@2 map"},
		{expression, "a[]", "!token@2 ]"},
		{expression, "a[1, 2]", "!token@3 ,"},
		{expression, "a[::1]", "!token@3 :"},
		{expression, "a[1::2]", "!token@4 :"},
		{expression, "a[:1:]", "!token@5 ]"},
		{expression, "a[1:2:3:4]", "!token@7 :"},
		{expression, "a ++", "!token@2 ++"},
		{expression, "a = b", "!token@2 ="},
		{expression, "a := b", "!token@2 :="},
		{expression, "any", "!token@0 any"},
		{expression, "_", "!token@0 _"},
		{expression, "true{}", "!token@4 {"},
		{expression, "{}", "!token@0 {"},
	} {
		c.as.want(t, c.s, c.want)
	}
}

// inOneLine writes tokens with a blank between, ENDs as semicolons.
func inOneLine(tokens []api.Token) string {
	var out strings.Builder
	for i, k := range tokens {
		if i > 0 {
			out.WriteByte(' ')
		}
		switch k.Kind {
		case api.TokEnd:
			out.WriteByte(';')
		case api.TokText:
			out.WriteString(lex.Quote(k.Text))
		default:
			out.WriteString(k.Text)
		}
	}
	return out.String()
}

// someTokens are those of a right text of a form.
func someTokens(g grower, as form, room int) []api.Token {
	text, _ := written(g, as, g.root(as, room))
	tokens, _ := lex.Scan(text)
	return tokens[:min(len(tokens), 150)]
}

// A right text that is cut off behind each of its tokens.
func TestCutTexts(t *testing.T) {
	g := grower{dice(5)}
	for i := range 150 {
		as := forms[i%3]
		tokens := someTokens(g, as, g.IntN(7))
		for end := range tokens {
			as.wantAsModel(t, inOneLine(tokens[:end]))
		}
	}
}

// changed has a token more, another one, one less, or two that stand the other way round.
func changed(r *rand.Rand, tokens []api.Token) []api.Token {
	tokens = slices.Clone(tokens)
	at := r.IntN(len(tokens) + 1)
	word, _ := lex.Scan(oneOf(r, vocabulary...))
	switch r.IntN(4) {
	case 0:
		return slices.Insert(tokens, at, word[0])
	case 1:
		if at < len(tokens) {
			tokens[at] = word[0]
		}
	case 2:
		if at < len(tokens) {
			return slices.Delete(tokens, at, at+1)
		}
	case 3:
		if at+1 < len(tokens) {
			tokens[at], tokens[at+1] = tokens[at+1], tokens[at]
		}
	}
	return tokens
}

func TestChangedTexts(t *testing.T) {
	g := grower{dice(6)}
	wrong := 0
	for i := range 2500 {
		as := forms[i%3]
		text := inOneLine(changed(g.Rand, someTokens(g, as, g.IntN(6))))
		as.wantAsModel(t, text)
		if _, err := as.read(text); err != nil {
			wrong++
		}
	}
	if wrong < 1000 || wrong > 2400 {
		t.Errorf("%d of the texts are wrong", wrong)
	}
}

// Every word, sign and kind of token behind each beginning of a text that has all forms.
func TestEveryTokenEverywhere(t *testing.T) {
	const whole = `type T struct { .*S; x }
protocol P { m(2); Q }
func (t *T) m(a) { L: for i, _ in a[1:] { if x == (T{}) { break L } else { x, y := e.(map) } } }
var v = func() { switch v := f(1,).(type) { case nil, *T: *p += &T{a: -1}; default: return } }`
	tokens, err := lex.Scan(whole)
	if err != nil {
		t.Fatal(err)
	}
	w := newWalk(t, program)
	for i := range tokens {
		w.next(vocabulary)
		w.goOn(inOneLine(tokens[i : i+1]))
	}
	program.wantAsModel(t, w.text)
}
