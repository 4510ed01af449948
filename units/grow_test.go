package units_test

import (
	"math/rand/v2"
	"regexp"
	"strings"

	"guise/units"
)

// grower writes units by chance, by rules: a word in capitals stands for one of its rule's forms; the first form of a rule is taken when there is no room left.
type grower struct {
	*rand.Rand
	rules map[string][]string
}

var capitals = regexp.MustCompile(`[A-Z]{2,}`)

func growing(seed uint64) *grower {
	return &grower{dice(seed), map[string][]string{
		"NAME":   {"x", "y", "f", "T", "S", "P"},
		"VAR":    {"x", "y", "T", "S", "a", "b", "c", "v", "w"},
		"ANY":    {"x", "y", "f", "T", "S", "P", "x", "y", "f", "v", "w", "a", "b", "none", "true", "nil", "print", "b__x", "d__f"},
		"FIELD":  {"m", "n", "k", "x", "f", "a"},
		"PART":   {"m", "n", "S", "T", "P", "x"},
		"UNIT":   {"a", "b", "c", "d"},
		"TYPE":   {"NAME", "NAME", "*NAME", "U", "a__T"},
		"HELD":   {"TYPE", "TYPE", "any", "map", "func"},
		"DECL":   {"var NAME = EXPR", "type NAME = int", "type NAME = NAME", "type NAME struct { ITEM }", "type NAME struct { ITEM; ITEM; FIELD }", "protocol NAME { WISH; WISH }", "func NAME(PARAMS) BLOCK", "func NAME(PARAMS) BLOCK", "func (VAR NAME) FIELD(PARAMS) BLOCK", "func (VAR *NAME) FIELD(PARAMS) BLOCK"},
		"ITEM":   {"FIELD", ".NAME", ".*NAME", ".a__T"},
		"WISH":   {"FIELD(1)", "NAME"},
		"PARAMS": {"", "VAR", "VAR, VAR"},
		"BLOCK":  {"{ }", "{ STMT }", "{ STMT; STMT }", "{ VAR := EXPR; STMT; STMT }", "{ STMT; VAR := EXPR; STMT; BLOCK; STMT }"},
		"STMT": {"print(ANY)", "print(EXPR)", "VAR := EXPR", "VAR, VAR := (EXPR)[EXPR]", "VAR, VAR := (EXPR).(HELD)", "SET, SET = (EXPR)[EXPR]", "PLACE = EXPR", "PLACE += EXPR", "PLACE++", "BLOCK",
			"if (EXPR) BLOCK", "if (EXPR) BLOCK else BLOCK", "for (EXPR) BLOCK", "for VAR in (EXPR) BLOCK", "x: for VAR, VAR in (EXPR) BLOCK", "for _, VAR in (EXPR) BLOCK",
			"switch (EXPR) { case EXPR, EXPR: STMT; STMT; default: STMT }", "switch VAR := (EXPR).(type) { case HELD: STMT; case HELD, nil: STMT; STMT; default: STMT }", "switch (EXPR).(type) { case HELD: STMT }",
			"return EXPR", "defer (EXPR)(EXPR)", "(EXPR)(EXPR)", "break"},
		"SET":   {"x", "y", "T", "a", "v"},
		"PLACE": {"SET", "UNIT.NAME", "(EXPR).PART", "(EXPR)[EXPR]", "*(EXPR)"},
		"EXPR": {"ANY", "ANY", "UNIT.NAME", "UNIT.NAME", "UNIT.NAME(EXPR)", "(EXPR).PART", "ANY.PART", "NAME{ }", "NAME{PART: EXPR, k: EXPR}", "&NAME{PART: EXPR}", "a__T{PART: EXPR}", "func(PARAMS) BLOCK", "func(PARAMS) BLOCK", "nil(*NAME)", "nil(NAME)",
			"(EXPR).(HELD)", "EXPR + EXPR", "-EXPR", "[EXPR, EXPR]", "map{EXPR: EXPR}", "(*NAME).FIELD", "(EXPR)(EXPR)", "(EXPR)[EXPR:]", "\"x\"", "1"},
	}}
}

func (g *grower) chance(outOf int) bool { return g.IntN(outOf) == 0 }

func (g *grower) write(form string, room int) string {
	return capitals.ReplaceAllStringFunc(form, func(word string) string {
		l := g.rules[word]
		one := l[g.IntN(len(l))]
		if room <= 0 && capitals.MatchString(one) {
			one = l[0]
		}
		return g.write(one, room-1)
	})
}

// body declares what most units declare, and some more.
func (g *grower) body() string {
	var out []string
	for _, one := range []string{"var x = EXPR", "var y = EXPR", "func f(PARAMS) BLOCK", "type T struct { ITEM; ITEM }", "type S struct { FIELD; ITEM }", "protocol P { WISH }"} {
		if !g.chance(25) {
			out = append(out, g.write(one, 5))
		}
	}
	for range g.IntN(4) {
		out = append(out, g.write("DECL", 5))
	}
	if g.chance(30) {
		out = append(out, oneOf(g.Rand, "var b = 1", "func x__() { }", "var x2345678901234567890123456789012345678 = 1", "type a struct { }", "#", "var x", "}"))
	}
	g.Shuffle(len(out), func(i, j int) { out[i], out[j] = out[j], out[i] })
	return strings.Join(out, oneOf(g.Rand, "\n", ";", " // x\n\n"))
}

// head imports some units, in some lines.
func (g *grower) head(imports []string) string {
	out := ""
	for len(imports) > 0 || g.chance(4) {
		switch g.IntN(4) {
		case 0:
			out += oneOf(g.Rand, "", " ", "\t \t") + "\n"
		case 1:
			out += oneOf(g.Rand, "//", " // import x", "\t//é\xff\x00") + "\n"
		default:
			if len(imports) == 0 {
				continue
			}
			n := 1 + g.IntN(len(imports))
			out += oneOf(g.Rand, "", " ", "\t\t") + "import" + oneOf(g.Rand, " ", "\t", "  \t") + strings.Join(imports[:n], oneOf(g.Rand, " ", "\t", "   ")) + oneOf(g.Rand, "", " ") + "\n"
			imports = imports[n:]
		}
	}
	return out
}

var unitNames = []string{"main", "a", "b", "c", "d", "e"}

// units are up to six; most of them may be told in order.
func (g *grower) units() []units.Unit {
	names := append([]string{}, unitNames[:1+g.IntN(len(unitNames))]...)
	if g.chance(40) {
		names[g.IntN(len(names))] = oneOf(g.Rand, "a", "_", "if", "x__y", "", "x-y")
	}
	g.Shuffle(len(names), func(i, j int) { names[i], names[j] = names[j], names[i] })
	rank := g.Perm(len(names))
	var out []units.Unit
	for i, name := range names {
		var imports []string
		for j, other := range names {
			if rank[j] < rank[i] && !g.chance(3) || g.chance(150) {
				imports = append(imports, other)
			}
		}
		if g.chance(60) {
			imports = append(imports, oneOf(g.Rand, "none", "_", "a__b", name, "a", "b", "nil", "c,"))
		}
		g.Shuffle(len(imports), func(i, j int) { imports[i], imports[j] = imports[j], imports[i] })
		source := g.head(imports) + g.body()
		if g.chance(100) {
			source = "import" + oneOf(g.Rand, "", " ", "x") + "\n" + source
		}
		out = append(out, units.Unit{Name: name, Source: source})
	}
	return out
}

// renamed gives units other names, wherever these stand.
func renamed(l []units.Unit, called map[string]string) []units.Unit {
	out := append([]units.Unit{}, l...)
	for i := range out {
		out[i].Name = calledOtherwise(out[i].Name, called)
		out[i].Source = calledOtherwise(out[i].Source, called)
	}
	return out
}

var wordsOfText = regexp.MustCompile(`[A-Za-z_]\w*`)

// calledOtherwise: also what stands ahead of two lines, or behind them, in a joined name.
func calledOtherwise(s string, called map[string]string) string {
	return wordsOfText.ReplaceAllStringFunc(s, func(word string) string {
		parts := strings.Split(word, "__")
		for i, part := range parts {
			if other, has := called[part]; has {
				parts[i] = other
			}
		}
		return strings.Join(parts, "__")
	})
}
