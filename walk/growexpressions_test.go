package walk_test

import (
	"fmt"
	"strings"
)

// expr is an expression that has a kind, most of the time.
func (g *grower) expr(kind string, deep int) string {
	if g.chance(14) {
		kind = g.kind()
	}
	if v := g.variable(kind); v != "" && (g.chance(3) || deep == 0 && g.chance(2)) {
		return v
	}
	if kind == "any" && deep > 0 && g.chance(3) {
		return g.anything(deep - 1)
	}
	for kind == "any" {
		kind = g.kind()
	}
	switch {
	case kind[0] == '*':
		if g.chance(6) {
			return "nil(" + kind + ")"
		}
		return "(&" + g.made(kind[1:], deep) + ")"
	case strings.Contains(" A C D E W ", " "+kind+" "):
		if g.chance(4) {
			return "(*" + g.expr("*"+kind, deep-1) + ")"
		}
		return "(" + g.made(kind, deep) + ")"
	case strings.Contains(" K L M F B S G ", " "+kind+" "):
		return kind + "(" + g.expr(underOf(kind), deep-1) + ")"
	}
	if deep <= 0 {
		return g.leaf(kind)
	}
	return g.plain(kind, deep-1)
}

// made is a struct literal.
func (g *grower) made(name string, deep int) string {
	if name == "fault" {
		return "fault{word: " + g.expr("text", 0) + ", more: " + g.expr("any", min(deep, 1)) + "}"
	}
	var parts []string
	for _, s := range g.structs {
		if s.name != name || deep < 0 {
			continue
		}
		for _, f := range s.fields {
			if g.chance(2) {
				parts = append(parts, f+": "+g.expr("any", deep-1))
			}
		}
		for _, e := range s.embeds {
			field := strings.TrimLeft(e, ".*")
			switch {
			case g.chance(2):
			case strings.Contains(" P Q R error ", " "+field+" "):
				parts = append(parts, field+": "+g.expr(oneOf(g.Rand, "*A", "*C", "A", "W", "*W", "*D", "K", "any"), deep-1))
			default:
				parts = append(parts, field+": "+g.expr(e[1:], deep-1))
			}
		}
	}
	g.Shuffle(len(parts), func(i, j int) { parts[i], parts[j] = parts[j], parts[i] })
	return name + "{" + strings.Join(parts, ", ") + "}"
}

func (g *grower) leaf(kind string) string {
	switch kind {
	case "int":
		return oneOf(g.Rand, "0", "1", "2", "3", "(-1)", "7", "9223372036854775807")
	case "bool":
		return oneOf(g.Rand, "true", "false")
	case "text":
		return oneOf(g.Rand, `""`, `"a"`, `"bc"`, `"\n\""`)
	case "float":
		return oneOf(g.Rand, "0.0", "1.5", "(-0.0)", "2.0", "(0.0 / 0.0)")
	case "list":
		return oneOf(g.Rand, "[]", "[1]", "[1, 2, 3]", "nil(list)", "[nil, \"a\"]")
	case "map":
		return oneOf(g.Rand, "map{}", "map{1: 2}", "map{\"a\": 1, 0.0: 2, nil: 3}", "nil(map)", "map{(A{}): 1, K(1): 2}")
	case "func":
		return oneOf(g.Rand, "f0", "f1", "nil(func)", "caught", "func() { }", "A.get", "(*W).get", "(*fault).Error")
	}
	return "(nil)"
}

func (g *grower) anything(deep int) string {
	switch g.IntN(9) {
	case 0:
		return "(nil)"
	case 1:
		return "(" + g.expr(g.kind(), deep) + ")." + g.field()
	case 2:
		return g.expr("map", deep) + "[" + g.expr("any", deep) + "]"
	case 3:
		return g.expr("list", deep) + "[" + g.expr("int", 0) + "]"
	case 4:
		return g.expr("any", deep) + ".(" + g.typeName() + ")"
	case 5:
		return "(*" + g.expr(oneOf(g.Rand, "*A", "*C", "*D", "*fault"), deep) + ")"
	case 6:
		return g.call(deep)
	}
	return g.expr(g.kind(), deep)
}

// pick is one of some texts, of which only that one is written.
func (g *grower) pick(all ...func() string) string { return all[g.IntN(len(all))]() }

// around is what stands around an expression of a kind.
func (g *grower) around(ahead, kind string, deep int, behind string) func() string {
	return func() string { return ahead + g.expr(kind, deep) + behind }
}

// between is two expressions with one of some signs between.
func (g *grower) between(kind string, deep int, signs ...string) func() string {
	return func() string {
		return "(" + g.expr(kind, deep) + " " + oneOf(g.Rand, signs...) + " " + g.expr(kind, deep) + ")"
	}
}

func (g *grower) plain(kind string, deep int) string {
	if g.chance(4) {
		return g.leaf(kind)
	}
	switch kind {
	case "int":
		return g.pick(g.between("int", deep, "+", "-", "*", "/", "%", "&", "|", "^", "<<", ">>"),
			g.around("len(", oneOf(g.Rand, "list", "map", "text"), deep, ")"), g.around("cap(", "list", deep, ")"),
			g.around("(-", "int", deep, ")"), g.around("(^", "int", 0, ")"), g.around("int(", oneOf(g.Rand, "float", "K", "int"), deep, ")"),
			func() string { return g.expr("text", deep) + "[" + g.expr("int", 0) + "]" },
			func() string { return "copy(" + g.expr("list", deep) + ", " + g.expr("list", 0) + ")" })
	case "bool":
		return g.pick(g.between("any", deep, "==", "!="), g.between("int", deep, "<", "<=", ">", ">="), g.between("text", deep, "<", ">="),
			g.between("bool", deep, "&&", "||"), g.around("(!", "bool", deep, ")"), g.around("bool(", "B", deep, ")"), g.between("float", deep, "<", "=="))
	case "text":
		return g.pick(g.between("text", deep, "+"), g.around("show(", "any", deep, ")"), g.around("typeof(", "any", deep, ")"), g.around("", "*fault", deep, ".Error()"),
			func() string {
				return g.expr("text", deep) + "[" + oneOf(g.Rand, "", g.expr("int", 0)) + ":" + oneOf(g.Rand, "", g.expr("int", 0)) + "]"
			})
	case "float":
		return g.pick(g.between("float", deep, "+", "-", "*", "/"), g.around("float(", "int", deep, ")"))
	case "list":
		return g.pick(func() string { return "[" + g.exprs(g.IntN(3), deep) + "]" },
			func() string { return "append(" + g.expr("list", deep) + ", " + g.exprs(1+g.IntN(2), deep) + ")" },
			g.around("", "list", deep, "["+oneOf(g.Rand, "", "0", "1")+":"+oneOf(g.Rand, "", "1", "2")+"]"),
			g.around("", "list", deep, "[0:"+oneOf(g.Rand, "0:1", "1:1", "1:2", "2:1", "1:(-1)")+"]"),
			func() string { return "make(" + fmt.Sprint(g.IntN(4)-1) + ")" }, g.around("list(", "L", deep, ")"))
	case "map":
		return g.pick(func() string { return "map{" + g.expr("any", deep) + ": " + g.expr("any", deep) + "}" },
			func() string { return "map{1: " + g.expr("any", deep) + ", " + g.expr("int", deep) + ": 2}" }, g.around("map(", "M", deep, ")"))
	}
	if g.left < 0 {
		return g.leaf(kind)
	}
	g.left -= 3
	return g.pick(func() string { return "func() " + g.body(nil, 1+g.IntN(2), g.chance(4)) },
		func() string { return "func(q) " + g.body([]grownVariable{{"q", "any"}}, 1, false) },
		g.around("(", g.kind(), deep, ")."+oneOf(g.Rand, "get", "low", "set")))
}
