package walk_test

import (
	"fmt"
	"math/rand/v2"
	"strings"
)

// grower writes programs by chance: most of what it writes can be done, some of it is a fault.
type grower struct {
	*rand.Rand
	structs []grownStruct
	scopes  [][]grownVariable
	labels  []string // of the loops around, in the function at hand
	loops   int
	names   int
	funcs   []string // declared functions, by their parameters: f0, f1, ..
	left    int      // how much more may be written
	deep    int      // how many statements stand around
}

type grownStruct struct {
	name   string
	fields []string
	embeds []string // in order, as they are written
}

type grownVariable struct{ name, kind string }

var plainKinds = []string{"int", "bool", "text", "float", "list", "map", "func"}

func growing(r *rand.Rand) *grower { return &grower{Rand: r} }

func (g *grower) chance(n int) bool { return g.IntN(n) == 0 }

func (g *grower) fresh(prefix string) string {
	g.names++
	return fmt.Sprint(prefix, g.names)
}

// program writes one; it is not always one that may be.
func (g *grower) program() string {
	g.structs, g.scopes, g.names, g.funcs, g.left = nil, [][]grownVariable{nil}, 0, nil, 14
	var out strings.Builder
	out.WriteString(g.types())
	for range 3 {
		g.funcs = append(g.funcs, fmt.Sprint("f", len(g.funcs)))
	}
	for i := range g.IntN(2) {
		name := fmt.Sprint("g", i)
		kind := g.kind()
		out.WriteString("var " + name + " = " + g.safe(kind) + "\n")
		g.scopes[0] = append(g.scopes[0], grownVariable{name, kind})
	}
	out.WriteString(g.methods())
	for i, f := range g.funcs {
		g.left = 6
		out.WriteString("func " + f + g.function(i) + "\n")
	}
	out.WriteString("func caught() { r := recover(); if r != nil { print(\"caught\", r) } }\n")
	out.WriteString("func main() { " + g.pieces() + "}\n")
	return out.String()
}

// pieces are what main does: some variables, then functions one by one, each of which ends by itself.
func (g *grower) pieces() string {
	out := ""
	g.scopes = append(g.scopes, nil)
	for range 5 {
		kind, name := g.kind(), g.fresh("v")
		out += name + " := " + g.safe(kind) + "; "
		g.declare(name, kind)
	}
	for range 5 {
		g.left = 8
		out += "func() " + g.body(nil, 3, true) + "(); "
	}
	g.scopes = g.scopes[:len(g.scopes)-1]
	return out
}

// safe is an expression without a fault.
func (g *grower) safe(kind string) string {
	switch {
	case kind == "any":
		return "nil"
	case kind[0] == '*':
		return "&" + kind[1:] + "{}"
	case strings.Contains(" A C D E W ", " "+kind+" "):
		return kind + "{}"
	case len(kind) == 1:
		return kind + "(" + g.leaf(underOf(kind)) + ")"
	}
	return oneOf(g.Rand, g.leaf(kind), map[string]string{"int": "2", "bool": "true", "text": "\"abc\"", "float": "0.5", "list": "[1, 2, 3]", "map": "map{1: 1, 2: [2]}", "func": "f0"}[kind])
}

func underOf(kind string) string {
	return map[string]string{"K": "int", "L": "list", "M": "map", "F": "func", "B": "bool", "S": "text", "G": "float"}[kind]
}

// types declares types and protocols.
func (g *grower) types() string {
	g.structs = nil
	out := "type K = int\ntype L = list\ntype M = map\ntype F = func\ntype B = bool\ntype S = text\ntype G = float\nprotocol P { get(0) }\nprotocol Q { P; set(1) }\nprotocol R { low(0) }\n"
	for _, name := range []string{"A", "C", "D", "E", "W"} {
		out += g.structure(name)
	}
	return out
}

// structure declares a struct type that embeds some of those ahead of it.
func (g *grower) structure(name string) string {
	s := grownStruct{name: name}
	for _, f := range []string{"x", "y", "get", "low"}[:2+g.IntN(5)/3] {
		if !g.chance(4) {
			s.fields = append(s.fields, f)
		}
	}
	for _, e := range g.structs {
		switch g.IntN(5) {
		case 0:
			s.embeds = append(s.embeds, "."+e.name)
		case 1:
			s.embeds = append(s.embeds, ".*"+e.name)
		}
	}
	for _, e := range []string{".P", ".Q", ".R", ".error", ".*fault", ".fault", ".*" + name} {
		if g.chance(7) && !(strings.HasSuffix(e, "fault") && strings.Contains(strings.Join(s.embeds, " "), "fault")) && len(s.embeds) < 4 {
			s.embeds = append(s.embeds, e)
		}
	}
	g.structs = append(g.structs, s)
	parts := append(append([]string{}, s.fields...), s.embeds...)
	g.Shuffle(len(parts), func(i, j int) { parts[i], parts[j] = parts[j], parts[i] })
	return "type " + name + " struct { " + strings.Join(parts, "; ") + " }\n"
}

// methods declares some, of struct types and others, by value and by pointer.
func (g *grower) methods() string {
	return g.methodsOf(func(params []grownVariable) string {
		g.left = 3
		return g.body(params, 2, false)
	})
}

func (g *grower) methodsOf(body func(params []grownVariable) string) string {
	var out strings.Builder
	for _, on := range []string{"A", "C", "D", "E", "W", "K", "L", "S"} {
		for _, m := range []string{"get", "set", "low", "Error"} {
			if g.chance(2) || strings.Contains(strings.Join(g.fieldsOf(on), " "), m) {
				continue
			}
			receiver, kind := on, on
			if on < "K" && g.chance(2) || on == "W" {
				receiver, kind = "*"+on, "*"+on
			}
			params := []grownVariable{{g.fresh("t"), kind}}
			list := ""
			if m == "set" {
				params = append(params, grownVariable{g.fresh("p"), "any"})
				list = params[1].name
			}
			out.WriteString("func (" + params[0].name + " " + receiver + ") " + m + "(" + list + ") " + body(params) + "\n")
		}
	}
	return out.String()
}

func (g *grower) fieldsOf(name string) []string {
	for _, s := range g.structs {
		if s.name == name {
			return s.fields
		}
	}
	return nil
}

// function is a function's parameters and body.
func (g *grower) function(params int) string {
	var vars []grownVariable
	var list []string
	for range params {
		v := grownVariable{g.fresh("p"), "any"}
		vars = append(vars, v)
		list = append(list, v.name)
	}
	return "(" + strings.Join(list, ", ") + ") " + g.body(vars, 1+g.IntN(3), g.chance(3))
}

// body is a function's block, which may lay a recover down at its beginning.
func (g *grower) body(vars []grownVariable, statements int, guarded bool) string {
	labels, loops := g.labels, g.loops
	g.labels, g.loops = nil, 0
	g.scopes = append(g.scopes, vars)
	out := "{ "
	if guarded {
		out += "defer caught(); "
	}
	out += g.statements(statements)
	if g.chance(2) {
		out += "return " + g.expr("any", 2) + " "
	}
	g.scopes = g.scopes[:len(g.scopes)-1]
	g.labels, g.loops = labels, loops
	return out + "}"
}

func (g *grower) block(statements int, vars ...grownVariable) string {
	g.scopes = append(g.scopes, vars)
	out := "{ " + g.statements(statements) + "}"
	g.scopes = g.scopes[:len(g.scopes)-1]
	return out
}

func (g *grower) statements(n int) string {
	var out strings.Builder
	for range n {
		if g.left > 0 {
			g.left--
			out.WriteString(g.statement() + "; ")
		}
	}
	return out.String()
}

func (g *grower) declare(name, kind string) {
	last := len(g.scopes) - 1
	g.scopes[last] = append(g.scopes[last], grownVariable{name, kind})
}

func (g *grower) kind() string {
	switch g.IntN(4) {
	case 0:
		return oneOf(g.Rand, "K", "L", "M", "F", "B", "S", "G", "any")
	case 1:
		return oneOf(g.Rand, "A", "C", "D", "E", "W", "*A", "*C", "*D", "*E", "*W", "*fault")
	}
	return oneOf(g.Rand, plainKinds...)
}

func (g *grower) typeName() string {
	return oneOf(g.Rand, "int", "text", "list", "map", "func", "bool", "float", "any", "P", "Q", "R", "error", "K", "L", "S", "A", "C", "*A", "*C", "*D", "*E", "*W", "W", "*fault")
}

func (g *grower) statement() string {
	g.deep++
	defer func() { g.deep-- }()
	which := g.IntN(20)
	if g.deep > 4 {
		which = oneOf(g.Rand, 0, 4, 15, 19)
	}
	switch which {
	case 0, 1, 2, 3:
		kind := g.kind()
		e, name := g.expr(kind, 2), g.fresh("v")
		g.declare(name, kind)
		return name + " := " + e
	case 4, 5:
		return g.place(2) + " = " + g.expr("any", 2)
	case 6:
		return g.place(2) + oneOf(g.Rand, " += ", " -= ", " *= ", " <<= ") + g.expr(oneOf(g.Rand, "int", "text"), 2)
	case 7:
		return g.place(2) + oneOf(g.Rand, "++", "--")
	case 8:
		return g.two()
	case 9:
		out := "if " + g.expr("bool", 2) + " " + g.block(2)
		if g.chance(2) {
			out += " else " + g.block(1)
		} else if g.chance(2) {
			out += " else if " + g.expr("bool", 1) + " " + g.block(1) + " else " + g.block(1)
		}
		return out
	case 10, 11:
		return g.loop()
	case 12:
		return g.choice()
	case 13:
		return g.typeChoice()
	case 14:
		return "defer " + g.call(2)
	case 15:
		return g.call(2)
	case 16:
		if g.loops > 0 && g.chance(2) {
			return "if " + g.expr("bool", 2) + " { " + oneOf(g.Rand, "break", "continue") + oneOf(g.Rand, "", g.label()) + " }"
		}
		return "panic(" + g.expr("any", 2) + ")"
	}
	return "print(" + g.exprs(1+g.IntN(3), 2) + ")"
}

func (g *grower) label() string {
	if len(g.labels) == 0 {
		return ""
	}
	return " " + oneOf(g.Rand, g.labels...)
}

func (g *grower) two() string {
	e := g.expr("any", 2) + ".(" + g.typeName() + ")"
	if g.chance(2) {
		e = g.expr("map", 2) + "[" + g.expr("any", 1) + "]"
	}
	if v := g.variable("any"); v != "" && g.chance(3) {
		return v + ", " + g.variable("any") + " = " + e
	}
	a, b := g.fresh("v"), g.fresh("v")
	g.declare(a, "any")
	g.declare(b, "bool")
	return a + ", " + b + " := " + e
}

// loop has a label by chance; one without an end is left by a break.
func (g *grower) loop() string {
	head, label := "", ""
	var vars []grownVariable
	of := ""
	switch g.IntN(4) {
	case 0:
		v := g.fresh("v")
		g.declare(v, "int")
		head, of = v+" := "+fmt.Sprint(g.IntN(3))+"; ", v+" < 3"
		vars = append(vars, grownVariable{v, "int"})
	default:
		k, v := grownVariable{g.fresh("k"), "any"}, grownVariable{g.fresh("v"), "any"}
		vars = append(vars, k)
		of = k.name
		if g.chance(2) {
			vars = append(vars, v)
			of += ", " + v.name
		}
		of += " in " + g.pick(func() string { return fmt.Sprint(g.IntN(4)) }, g.around("", "list", 2, ""), g.around("", "map", 2, ""), g.around("", "map", 2, ""), g.around("", oneOf(g.Rand, "text", "any"), 1, ""))
	}
	if g.chance(3) {
		label = g.fresh("L")
		g.labels = append(g.labels, label)
		label += ": "
	}
	g.loops++
	g.scopes = append(g.scopes, vars)
	body := g.block(2)
	g.scopes = g.scopes[:len(g.scopes)-1]
	g.loops--
	if label != "" {
		g.labels = g.labels[:len(g.labels)-1]
	}
	if head != "" {
		return head + label + "for " + of + " { " + vars[0].name + "++; " + body + " }"
	}
	return label + "for " + of + " " + body
}

func (g *grower) choice() string {
	of, kind := g.expr("any", 1), "any"
	if g.chance(3) {
		of, kind = "", "bool"
	}
	out := "switch " + of + " { "
	cases := 1 + g.IntN(3)
	for i := range cases {
		if i == 1 && g.chance(2) {
			out += "default: "
		} else {
			out += "case " + g.expr(kind, 1)
			if g.chance(2) {
				out += ", " + g.expr(kind, 1)
			}
			out += ": "
		}
		g.scopes = append(g.scopes, nil)
		out += g.statements(1)
		g.scopes = g.scopes[:len(g.scopes)-1]
		if i < cases-1 && g.chance(4) {
			out += "fallthrough; "
		} else if g.chance(6) {
			out += "break; "
		}
	}
	return out + "}"
}

func (g *grower) typeChoice() string {
	v := g.fresh("v")
	head := v + " := "
	if g.chance(3) {
		head = ""
	}
	out := "switch " + head + g.expr("any", 2) + ".(type) { "
	for i := range 1 + g.IntN(3) {
		if i == 1 && g.chance(2) {
			out += "default: "
		} else {
			out += "case " + oneOf(g.Rand, "", "", "nil, ") + g.typeName() + oneOf(g.Rand, "", ", nil", ", "+g.typeName()) + ": "
		}
		g.scopes = append(g.scopes, nil)
		if head != "" {
			g.declare(v, "any")
		}
		out += g.statements(1)
		g.scopes = g.scopes[:len(g.scopes)-1]
	}
	return out + "}"
}

// variable is one of a kind, or of any, that is seen here; empty: there is none.
func (g *grower) variable(kind string) string {
	var all []string
	for _, s := range g.scopes {
		for _, v := range s {
			if kind == "any" || v.kind == kind {
				all = append(all, v.name)
			}
		}
	}
	if len(all) == 0 {
		return ""
	}
	return oneOf(g.Rand, all...)
}

func (g *grower) place(deep int) string {
	v := g.variable("any")
	switch {
	case v == "" || deep == 0 && g.chance(2):
		return g.expr("list", 0) + "[0]"
	case deep == 0 || g.chance(4):
		return v
	}
	switch g.IntN(6) {
	case 0:
		return g.expr("list", deep-1) + "[" + g.expr("int", 0) + "]"
	case 1:
		return g.expr("map", deep-1) + "[" + g.expr("any", 1) + "]"
	case 2:
		return "*" + g.expr(oneOf(g.Rand, "*A", "*C", "*D", "*E"), deep-1)
	case 3:
		return g.expr(oneOf(g.Rand, "*A", "*C", "*D", "*E", "*W"), deep-1) + "." + g.field()
	}
	p := g.place(deep - 1)
	if strings.HasPrefix(p, "*") {
		p = "(" + p + ")"
	}
	return p + "." + g.field()
}

func (g *grower) field() string {
	return oneOf(g.Rand, "x", "x", "y", "y", "A", "C", "P", "Q", "get", "low", "fault", "word", "D")
}

func (g *grower) call(deep int) string {
	switch g.IntN(8) {
	case 0:
		return g.expr("func", deep-1) + "(" + g.exprs(g.IntN(2), 1) + ")"
	case 1:
		return "(" + g.expr("any", deep-1) + ")." + oneOf(g.Rand, "get", "low", "Error") + "()"
	case 2:
		return "(" + g.expr(g.kind(), deep-1) + ")." + g.pick(func() string { return "get()" }, func() string { return "low()" }, g.around("set(", "any", 1, ")"))
	case 3:
		i := g.IntN(len(g.funcs))
		return g.funcs[i] + "(" + g.exprs(i, 1) + ")"
	case 4:
		return "func() " + g.body(nil, 2, g.chance(2)) + "()"
	case 5:
		return "caught(" + oneOf(g.Rand, "", "", "", "1") + ")"
	case 6:
		return oneOf(g.Rand, "(*A).set", "A.get", "(*D).get", "E.low", "(*W).get", "(*fault).Error") + "(" + g.exprs(1+g.IntN(2), 2) + ")"
	}
	return g.builtCall(deep - 1)
}

func (g *grower) builtCall(deep int) string {
	switch g.IntN(10) {
	case 0:
		return "delete(" + g.expr("map", deep) + ", " + g.expr("any", 1) + ")"
	case 1:
		return "copy(" + g.expr("list", deep) + ", " + g.expr("list", deep) + ")"
	case 2:
		return "recover()"
	case 3:
		return "panic(" + g.expr("any", deep) + ")"
	case 4:
		return oneOf(g.Rand, "len", "cap", "typeof", "show", "append", "make") + "(" + g.exprs(g.IntN(3), deep) + ")"
	}
	return "print(" + g.exprs(1+g.IntN(2), deep) + ")"
}

func (g *grower) exprs(n, deep int) string {
	var out []string
	for range n {
		out = append(out, g.expr("any", deep))
	}
	return strings.Join(out, ", ")
}
