package machine_test

import (
	"strings"
)

func (g *writer) kind() string {
	return g.one("int", "int", "bool", "text", "float", "list", "map", "func", "func", "P", "*P", "*E", "any")
}

func (g *writer) typeName() string {
	return g.one("int", "bool", "text", "float", "list", "map", "func", "any", "S", "A", "error", "K", "P", "*P", "E", "*E", "*fault")
}

func (g *writer) exprs(n, deep int) string {
	var out []string
	for range n {
		out = append(out, g.expr("any", deep))
	}
	return strings.Join(out, ", ")
}

// expr is an expression that has a kind, most of the time.
func (g *writer) expr(kind string, deep int) string {
	if g.chance(25) {
		kind = g.kind()
	}
	for kind == "any" && g.chance(2) {
		kind = g.kind()
	}
	if v := g.variable(kind); g.chance(3) && (v != "g0" || kind == "int") {
		return v
	}
	if deep <= 0 {
		return g.leaf(kind)
	}
	return g.composed(kind, deep-1)
}

func (g *writer) leaf(kind string) string {
	switch kind {
	case "int":
		return g.one("0", "1", "2", "3", "(-1)", "K(2)")
	case "bool":
		return g.one("true", "false", "(1 < 2)")
	case "text":
		return g.one(`""`, `"a"`, `"b\n"`)
	case "float":
		return g.one("0.5", "2.0", "(-0.0)", "0.1")
	case "list":
		return g.one("[]", "[1, 2, 3]", "nil(list)", "L([7])", "[[1], 2]")
	case "map":
		return g.one("map{}", "map{0: 1, 1: 2}", "nil(map)", "map{nil: [1]}")
	case "func":
		return g.one("note", "nil(func)", "g2", "P.sum", "(*P).add", "(*E).sum", "func(z) { return z }")
	case "P":
		return g.one("(P{x: 1, y: 2})", "(P{})", "(P{y: [1]})")
	case "*P":
		return g.one("(&P{x: 1})", "nil(*P)", "(&P{x: 3, y: 4})")
	case "*E":
		return g.one("(&E{})", "nil(*E)", "(&E{P: P{x: 1}, Q: &Q{S: K(2), q: 3}, z: 5})", "(&E{z: P{x: 1}, Q: &Q{}})")
	}
	return g.one("(nil)", "1", "\"t\"", "[nil]", "(&fault{word: \"w\", more: 1})", "(E{z: 1})")
}

// either writes one of some expressions: the others cost nothing.
func (g *writer) either(all ...func() string) string { return all[g.IntN(len(all))]() }

// around writes expressions of some kinds between the pieces of a text, where a % stands.
func (g *writer) form(s string, deep int, kinds ...string) func() string {
	return func() string {
		pieces := strings.Split(s, "%%")
		out := pieces[0]
		for i, kind := range kinds {
			out += g.expr(kind, deep) + pieces[i+1]
		}
		return out
	}
}

func (g *writer) composed(kind string, deep int) string {
	if g.chance(6) {
		return g.found(deep)
	}
	switch kind {
	case "int":
		sign := g.one("+", "-", "*", "/", "%", "&", "|", "^", "<<", ">>")
		return g.either(g.form("(%% "+sign+" %%)", deep, "int", "int"), g.form("(-%%)", deep, "int"), g.form("(^%%)", deep, "int"), g.form("len(%%)", deep, g.one("list", "map", "text")),
			g.form("cap(%%)", deep, "list"), g.form("int(%%)", deep, g.one("int", "float")), g.form("K(%%)", deep, "int"), g.form("copy(%%, %%)", deep, "list", "list"), g.form("%%.(int)", deep, "int"))
	case "bool":
		sign := g.one("==", "!=")
		return g.either(g.form("(%% "+sign+" %%)", deep, "any", "any"), g.form("(%% "+g.one("<", "<=", ">", ">=")+" %%)", deep, "int", "int"), g.form("(!%%)", deep, "bool"),
			g.form("(%% && %%)", deep, "bool", "bool"), g.form("(%% || %%)", deep, "bool", "bool"), g.form("(%% && %% || %%)", deep, "bool", "bool", "bool"), g.form("bool(B(%%))", deep, "bool"))
	case "text":
		return g.either(g.form("(%% + %%)", deep, "text", "text"), g.form("show(%%)", deep, "any"), g.form("typeof(%%)", deep, "any"), g.form("%%[%%:]", deep, "text", "int"))
	case "float":
		return g.either(g.form("(%% "+g.one("+", "-", "*", "/")+" %%)", deep, "float", "float"), g.form("float(%%)", deep, "int"))
	case "list":
		return g.either(g.form("[%%, %%]", deep, "any", "any"), g.form("append(%%, %%)", deep, "list", "any"), g.form("%%[:]", deep, "list"), g.form("%%[%%:]", deep, "list", "int"), g.form("%%[:%%]", deep, "list", "int"),
			g.form("%%[%%:%%:%%]", deep, "list", "int", "int", "int"), g.form("%%[:%%:%%]", deep, "list", "int", "int"), g.form("make(%%)", deep, "int"), g.form("L(%%)", deep, "list"), g.form("list(%%)", deep, "list"))
	case "map":
		return g.either(g.form("map{%%: %%}", deep, "any", "any"), g.form("map{1: %%, %%: 2, 1: %%}", deep, "any", "int", "any"), g.form("map(%%)", deep, "map"))
	case "func":
		return g.literal(deep)
	case "P":
		return g.either(g.form("(P{y: %%, x: %%})", deep, "any", "any"), g.form("(*%%)", deep, "*P"), g.form("%%.P", deep, "*E"), g.form("%%.(P)", deep, "P"))
	case "*P":
		return g.either(g.form("(&P{x: %%})", deep, "any"), g.form("%%.add(%%)", deep, g.one("*P", "*E"), "any"), g.form("%%.(*P)", deep, "*P"))
	case "*E":
		return g.either(g.form("(&E{z: %%, P: %%})", deep, "any", "P"), g.form("(&E{Q: &Q{S: %%}})", deep, g.one("P", "*P", "any")), g.form("%%.self(%%)", deep, "*E", "int"))
	}
	return g.either(g.form("%%", deep, g.kind()), func() string { return g.call(deep) })
}

// found is an expression that looks for something in another one.
func (g *writer) found(deep int) string {
	return g.either(g.form("%%[%%]", deep, "list", "int"), g.form("%%[%%]", deep, "map", "any"), g.form("%%[%%]", deep, "text", "int"), g.form("%%.("+g.typeName()+")", deep, "any"),
		g.form("%%."+g.field(), deep, g.one("P", "*P", "*E")), g.form("%%."+g.one("sum", "add"), deep, g.one("P", "*P", "*E")), func() string { return g.call(deep) })
}

func (g *writer) field() string { return g.one("x", "x", "y", "z", "q", "P", "Q", "S", "sum", "none") }

// literal is a function; what stands in it uses what is seen around it.
func (g *writer) literal(deep int) string {
	if g.left <= 0 || g.within > 4 {
		return g.leaf("func")
	}
	return "func(" + g.function(strings.Split("p q", " ")[:g.IntN(3)], g.chance(4))
}

func (g *writer) place(deep int) string {
	if deep == 0 || g.chance(5) {
		return g.variable(g.one("any", "P", "*P", "*E", "list", "map"))
	}
	field := "." + g.field()
	return g.either(g.form("%%[%%]", deep-1, "list", "int"), g.form("%%[%%]", deep-1, "map", "any"), g.form("*%%", deep-1, g.one("*P", "*E")), g.form("%%"+field, deep-1, g.one("*P", "*E")),
		func() string { return "(" + g.place(deep-1) + ")" + field }, func() string { return g.variable(g.one("P", "*P", "*E")) + field }, func() string { return g.one("P.sum", "(*E).self", "note") + g.one("", field) + ".x" })
}

func (g *writer) call(deep int) string {
	return g.either(g.form("note(%%)", deep, "any"), g.form("f0()", deep), g.form("f1(%%)", deep, "any"), g.form("f2(%%, %%)", deep, "any", "any"), g.form("f1()", deep),
		g.form("%%(%%)", deep, "func", "any"), func() string { return g.literal(deep) + "()" }, func() string { return g.variable("func") + "(" + g.exprs(g.IntN(3), 1) + ")" },
		g.form("%%.sum()", deep, g.one("P", "*P", "*E", "int", "any")), g.form("%%.add(%%)", deep, g.one("*P", "*E", "list"), "any"), g.form("P.sum(%%)", deep, "P"), g.form("(*E).add(%%, %%)", deep, "*E", "int"),
		g.form("print(%%, %%)", deep, "any", "any"), g.form("delete(%%, %%)", deep, "map", "any"), g.form("panic(%%)", deep, "any"), g.form("recover()", deep), g.form("len(%%)", deep, "any"), g.form("append(%%, %%)", deep, "list", "any"))
}
