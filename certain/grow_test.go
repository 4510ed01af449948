package certain_test

import (
	"math/rand/v2"
	"regexp"
	"strings"
	"testing"

	"guise/api"
	"guise/names"
	"guise/parse"
	"guise/types"
)

// grower writes programs by chance, by rules: a word in capitals stands for one of its rule's forms; the first form of a rule is taken when there is no room left. All variables' names are declared by the program, too, so that each is seen everywhere.
type grower struct {
	*rand.Rand
	rules map[string][]string
}

var capitals = regexp.MustCompile(`\b[A-Z]{2,}\b`)

func growing(seed uint64) *grower {
	return &grower{dice(seed), map[string][]string{
		"VAR":   {"x", "y", "v", "a", "b", "p", "q", "r"},
		"TYPE":  {"int", "text", "bool", "float", "list", "map", "func", "any", "P", "Q", "R", "U", "error", "K", "L", "M", "S", "F", "A", "B", "C", "*A", "*B", "*C", "fault", "*fault"},
		"TYPES": {"TYPE", "TYPE, TYPE", "TYPE, nil", "nil", "nil, TYPE", "TYPE, TYPE, TYPE", "int, int"},
		"FIELD": {"u", "w", "A", "B", "P", "U", "word", "more"},
		"HAS":   {"u", "w", "u", "A", "B", "C", "P", "U", "word", "m", "n", "k", "Error"},
		"METH":  {"m()", "m()", "n(EXPR)", "k()", "Error()", "n()", "u(EXPR)"},
		"BLOCK": {"{ }", "{ STMT }", "{ STMT; STMT }", "{ x := EXPR; STMT; STMT }", "{ STMT; y := EXPR; v := EXPR; STMT; BLOCK; STMT }"},
		"BODY":  {"{ }", "{ return EXPR }", "{ STMT; return EXPR }", "{ x := EXPR; STMT; return EXPR }", "{ defer func() { x = recover(); STMT }(); y := EXPR; STMT; STMT; return EXPR }"},
		"STMT": {"VAR = EXPR", "VAR = EXPR", "PLACE = EXPR", "PLACE = EXPR", "PLACE OPER= EXPR", "VAR += EXPR", "PLACE++", "print(EXPR)", "CALL", "CALL", "defer CALL", "BLOCK",
			"VAR, ok = (EXPR).(TYPE)", "VAR, ok = (EXPR).(TYPE)", "VAR, ok = MAPE[EXPR]", "{ x, v := (EXPR).(TYPE); STMT; STMT }", "{ y, p := MAPE[EXPR]; STMT; STMT }",
			"if BOOL BLOCK", "if BOOL BLOCK else BLOCK", "for x in (MANY) BLOCK", "for x, y in (MANY) BLOCK", "for _, p in (MANY) BLOCK", "for BOOL { STMT; if BOOL { break }; STMT }",
			"switch (EXPR) { case EXPR, EXPR: STMT; default: STMT; STMT }", "switch { case BOOL: STMT; fallthrough; case BOOL: STMT }",
			"switch v := (EXPR).(type) { case TYPES: STMT; case TYPES: STMT; STMT; default: STMT }", "switch y := (EXPR).(type) { default: STMT; STMT; case TYPES: STMT; case TYPES: STMT }", "switch (VAR).(type) { case TYPES: STMT; case TYPES: STMT; case TYPES: }",
			"panic(EXPR)", "return EXPR"},
		"PIECE": {"func() { defer func() { VAR = recover() }(); STMT; STMT; STMT }()", "func() { defer func() { recover() }(); STMT; STMT }()", "func() { defer func() { recover(); STMT }(); STMT; STMT; STMT }()"},
		"OPER":  {"+", "-", "*", "/", "%", "&", "|", "^", "<<", ">>"},
		"PLACE": {"VAR", "(STRUCT).HAS", "VAR.HAS", "(EXPR).FIELD", "LISTE[INT]", "VAR[EXPR]", "MAPE[EXPR]", "(EXPR)[EXPR]", "*(STRUCT)", "*VAR", "T.m"},
		"BOOL":  {"true", "false", "INT < INT", "INT == INT", "BOOL && BOOL", "!BOOL"},
		"INT":   {"1", "0", "2", "INT + INT", "len(MANY)", "(EXPR).(int)", "K(INT)"},
		"LISTE": {"[1, \"a\"]", "[EXPR]", "[EXPR, EXPR]", "append(LISTE, EXPR)", "LISTE[0:]", "make(2)", "L(LISTE)", "(VAR).(list)"},
		"MAPE":  {"map{1: 2}", "map{EXPR: EXPR}", "map{\"a\": EXPR, 2.5: EXPR}", "M(MAPE)", "(VAR).(map)"},
		"MANY":  {"2", "LISTE", "LISTE", "MAPE", "MAPE", "\"ab\"", "VAR", "EXPR"},
		"STRUCT": {"A{ }", "&A{u: EXPR}", "&B{w: EXPR}", "&C{ }", "B{A: A{u: EXPR}}", "C{B: &B{ }, P: EXPR}", "C{B: &B{ }, P: K(1)}", "&C{B: &B{w: EXPR}}", "(VAR).(*A)", "(VAR).(*B)",
			"&fault{word: \"t\", more: EXPR}", "nil(*B)", "C{u: EXPR, U: EXPR}", "B{w: STRUCT}"},
		"ARGS": {"", "EXPR", "EXPR", "EXPR, EXPR"},
		"CALL": {"one(EXPR)", "none()", "two(EXPR, EXPR)", "one(ARGS)", "(STRUCT).METH", "(STRUCT).METH", "(VAR).METH", "(EXPR).METH", "VAR(ARGS)", "func(p) BODY(EXPR)", "func() BODY()", "(EXPR)(ARGS)",
			"A.m(A{ })", "(*A).n(&A{ }, EXPR)", "C.m(STRUCT)", "K.m(K(1))", "(*fault).Error(&fault{ })", "copy(LISTE, LISTE)", "delete(MAPE, EXPR)", "panic(EXPR)", "recover()", "append(ARGS)"},
		"EXPR": {"VAR", "VAR", "VAR", "1", "2.5", "\"t\"", "true", "nil", "LISTE", "MAPE", "STRUCT", "STRUCT", "INT", "BOOL", "CALL", "CALL", "CALL", "one", "two", "func(p) BODY", "func(p, q) BODY", "func() BODY", "A.m", "(*B).n", "C.m", "(*fault).Error",
			"(STRUCT).HAS", "(VAR).HAS", "(VAR).HAS", "LISTE[INT]", "(VAR)[EXPR]", "MAPE[EXPR]", "(EXPR)[INT:]", "(EXPR)[:INT:INT]", "(EXPR).(TYPE)", "(VAR).(TYPE)", "*(STRUCT)", "*(VAR)", "-(VAR)", "!(VAR)", "^(VAR)", "VAR + VAR", "VAR + EXPR", "INT - VAR", "VAR * 2.5", "VAR | INT", "VAR == VAR",
			"K(EXPR)", "S(\"k\")", "F(EXPR)", "nil(list)", "nil(M)", "nil(*C)", "typeof(EXPR)", "show(VAR)", "recover()", "len(EXPR)", "cap(LISTE)"},
	}}
}

func (g *grower) chance(outOf int) bool { return g.IntN(outOf) == 0 }

func (g *grower) write(form string, room int) string {
	return capitals.ReplaceAllStringFunc(form, func(word string) string {
		l, is := g.rules[word]
		if !is {
			return word
		}
		one := l[g.IntN(len(l))]
		if room <= 0 && capitals.MatchString(one) {
			one = l[0]
		}
		return g.write(one, room-1)
	})
}

// some are those of a list that chance takes.
func (g *grower) some(l ...string) []string {
	var out []string
	for _, s := range l {
		if !g.chance(5) {
			out = append(out, s)
		}
	}
	return out
}

// program writes one; almost all may be. Of one that is to be played the variables begin without a fault, and main does more, piece by piece.
func (g *grower) program(toPlay bool) string {
	const given = "type K = int\ntype L = list\ntype M = map\ntype S = text\ntype F = func\ntype T = bool\nfunc (t T) m() { return t }\nprotocol P { m(0) }\nprotocol Q { P; n(1) }\nprotocol R { }\nprotocol U { u(1) }\nfunc (k K) m() { return k }"
	out := strings.Split(given, "\n")
	out = append(out, oneOf(g.Rand, "type A struct { u }", "type A struct { u; word }"), oneOf(g.Rand, "type B struct { .A; w }", "type B struct { .*A; w }", "type B struct { w; .*A; .U }"),
		oneOf(g.Rand, "type C struct { .*B; .P; u; .U }", "type C struct { u; .U; .*B; .P; .*fault }", "type C struct { .B; .P; u; .U }"))
	out = append(out, g.some("func (r A) m() BODY", "func (r *A) n(p) BODY", "func (r *B) k() BODY", "func (r B) Error() BODY", "func (r S) u(q) BODY", "func (r F) Error() BODY")...)
	out = append(out, "func one(p) BODY", "func two(p, q) BODY", "func none() BODY", "var ok = false")
	begins := []string{"nil", "1", "A{ }", "&B{ }", "[1, 2.5]", "map{1: \"t\"}", "\"t\"", "one", "K(1)"}
	pieces := 12
	if !toPlay {
		begins = append(begins, "EXPR", "EXPR", "STRUCT", "INT")
		pieces = g.IntN(6)
	}
	out = append(out, "func main() { "+strings.Repeat("PIECE; ", pieces)+"}")
	for _, name := range []string{"x", "y", "v", "a", "b", "p", "q", "r"} {
		out = append(out, "var "+name+" = "+oneOf(g.Rand, begins...))
	}
	g.Shuffle(len(out), func(i, j int) { out[i], out[j] = out[j], out[i] })
	for i, d := range out {
		out[i] = g.write(d, oneOf(g.Rand, 1, 2, 3, 4))
	}
	return strings.Join(out, "\n") + "\n"
}

// grown is a program that may be, and its tree.
func (g *grower) grown(t testing.TB, toPlay bool) (string, api.Node) {
	t.Helper()
	for range 1000 {
		s := g.program(toPlay)
		if n, err := parse.Program(s); err == nil && mayBe(n) {
			return s, n
		}
	}
	t.Fatal("no program that may be")
	return "", api.Node{}
}

func mayBe(n api.Node) bool {
	_, bindErr := names.Resolve(n)
	_, makeErr := types.Make(n)
	return bindErr == nil && makeErr == nil
}
