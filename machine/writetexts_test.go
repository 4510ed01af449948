package machine_test

import (
	"fmt"
	"math/rand/v2"
	"strings"
)

// textWorld is what written programs declare beside their own functions.
const textWorld = `
type P struct { x; y }
type K = int
type B = bool
type L = list
type Q struct { q; .S }
type E struct { .P; .*Q; z }
protocol S { sum(0) }
protocol A { S; add(1) }
func (p P) sum() { return p.x }
func (p *P) add(n) { p.x = n; print("add", n); return p }
func (k K) sum() { return int(k) + 1 }
func (l L) add(n) { return append(l, n) }
func (e *E) self(n) { defer note("self"); if n > 0 { return e.self(n - 1) }; return e }
var g0 = 1
var g1 = [3, 4, 5]
var g2 = func(a) { g0++; return a }
func note(a) { print("note", a); return a }
func caught() { r := [recover()]; if r[0] != nil { print("caught", r[0]) } }
`

// writer writes programs by chance, with loops, switches and literals within one another; most of what they do has no fault.
type writer struct {
	*rand.Rand
	scopes [][]local // the variables that are seen
	around []goal    // the loops and switches around, in the function at hand
	names  int
	left   int // how many statements more may be written
	within int // how many literals stand around
}

// local is a variable, and what it has most of the time.
type local struct{ name, kind string }

// goal is what a break may leave.
type goal struct {
	label string
	loop  bool
}

func writing(seed uint64) *writer { return &writer{Rand: rand.New(rand.NewPCG(seed, 14))} }

func (g *writer) chance(n int) bool { return g.IntN(n) == 0 }

func (g *writer) one(all ...string) string { return all[g.IntN(len(all))] }

func (g *writer) fresh(prefix string) string {
	g.names++
	return fmt.Sprint(prefix, g.names)
}

// program writes one.
func (g *writer) program() string {
	g.scopes, g.names = [][]local{{{"g0", "int"}, {"g1", "list"}, {"g2", "func"}}}, 0
	out := textWorld
	for i := range 3 {
		g.left = 10
		out += fmt.Sprintf("func f%d(%s\n", i, g.function(strings.Split("a b", " ")[:i%3], g.chance(2)))
	}
	return out + "func main() { " + g.pieces(5) + "}\n"
}

// pieces are what main does: variables, and literals that use them, each of which ends by itself, mostly.
func (g *writer) pieces(n int) string {
	out := ""
	g.scopes = append(g.scopes, nil)
	for range n {
		kind := g.kind()
		e := g.leaf(kind)
		out += g.define(kind) + " := " + e + "; "
		g.left = 25
		out += "func(" + g.function(nil, !g.chance(8)) + "(); "
	}
	g.scopes = g.scopes[:1]
	return out
}

// function is a function's parameters, from the bracket on, and its body.
func (g *writer) function(params []string, guarded bool) string {
	around := g.around
	g.around = nil
	scope := []local{}
	for i, p := range params {
		scope = append(scope, local{fmt.Sprint(p, g.within), g.one("int", "any")})
		params[i] = scope[i].name
	}
	g.within++
	g.scopes = append(g.scopes, scope)
	out := strings.Join(params, ", ") + ") { "
	if guarded {
		out += "defer caught(); "
	}
	out += g.statements(2 + g.IntN(6))
	if g.chance(2) {
		out += "return " + g.expr("any", 2) + " "
	}
	g.scopes = g.scopes[:len(g.scopes)-1]
	g.within--
	g.around = around
	return out + "}"
}

func (g *writer) statements(n int) string {
	out := ""
	for range n {
		if g.left--; g.left > 0 {
			out += g.statement() + "; "
		}
	}
	return out
}

// block has variables of its own.
func (g *writer) block(n int, vars ...local) string {
	g.scopes = append(g.scopes, vars)
	out := "{ " + g.statements(n) + "}"
	g.scopes = g.scopes[:len(g.scopes)-1]
	return out
}

// define makes a variable known; now and then one that hides another.
func (g *writer) define(kind string) string {
	last := len(g.scopes) - 1
	name := g.fresh("v")
	if old := g.variable("any"); g.chance(4) && !strings.Contains(fmt.Sprint(g.scopes[last]), "{"+old+" ") {
		name = old
	}
	g.scopes[last] = append(g.scopes[last], local{name, kind})
	return name
}

// variable is one that is seen, of a kind, if there is one.
func (g *writer) variable(kind string) string {
	var all []string
	seen := map[string]int{}
	for i := len(g.scopes) - 1; i >= 0; i-- {
		for _, v := range g.scopes[i] {
			if seen[v.name]++; seen[v.name] == 1 && (kind == "any" || v.kind == kind) {
				all = append(all, v.name)
			}
		}
	}
	if len(all) == 0 {
		return "g0"
	}
	return g.one(all...)
}

func (g *writer) statement() string {
	switch g.IntN(24) {
	case 0, 1, 2:
		kind := g.kind()
		e := g.expr(kind, 2)
		return g.define(kind) + " := " + e
	case 3:
		return g.variable("any") + " = " + g.expr("any", 2)
	case 4:
		return g.place(2) + " = " + g.expr("any", 2)
	case 5:
		return g.one(g.variable("int"), g.place(2)) + " " + g.one("+=", "-=", "*=", "/=", "%=", "&=", "|=", "^=", "<<=", ">>=") + " " + g.expr("int", 1)
	case 6:
		return g.one(g.variable("int"), g.place(2)) + g.one("++", "--")
	case 7:
		return g.two()
	case 8, 9:
		return g.choice()
	case 10, 11, 12:
		return g.loop()
	case 13, 14:
		return g.choose()
	case 15:
		return g.chooseType()
	case 16, 17:
		return g.leaving()
	case 18:
		return "defer " + g.call(2)
	case 19:
		return g.call(2)
	case 20:
		return g.block(2)
	}
	return "print(" + g.exprs(1+g.IntN(3), 2) + ")"
}

func (g *writer) two() string {
	e := g.expr("any", 1) + ".(" + g.typeName() + ")"
	if g.chance(2) {
		e = g.one(g.expr("map", 2), g.expr("any", 1)) + "[" + g.expr("int", 1) + "]"
	}
	if g.chance(2) {
		return g.variable("any") + ", " + g.variable("any") + " = " + e
	}
	first := g.define("any")
	second := g.define("bool")
	return first + ", " + second + " := " + e
}

func (g *writer) choice() string {
	out := "if " + g.expr("bool", 2) + " " + g.block(2)
	switch g.IntN(4) {
	case 0:
		out += " else " + g.block(1)
	case 1:
		out += " else if " + g.expr("bool", 1) + " " + g.block(1)
	case 2:
		out += " else if " + g.expr("bool", 1) + " " + g.block(1) + " else " + g.block(1)
	}
	return out
}

// into writes what stands in a loop or a switch, which has a label by chance.
func (g *writer) into(loop bool, write func() string) string {
	label := ""
	if g.chance(2) {
		label = g.fresh("L")
	}
	g.around = append(g.around, goal{label, loop})
	out := write()
	g.around = g.around[:len(g.around)-1]
	if label != "" {
		return label + ": " + out
	}
	return out
}

// loop is one that ends, if nobody sets its counter.
func (g *writer) loop() string {
	counter := g.fresh("c")
	switch g.IntN(5) {
	case 0:
		return counter + " := 0; " + g.into(true, func() string {
			return "for " + counter + " < 3 { " + counter + "++; " + g.block(3, local{counter, "int"}) + " }"
		})
	case 1:
		return counter + " := 0; " + g.into(true, func() string {
			return "for { " + counter + "++; if " + counter + " > 3 { break }; " + g.block(3, local{counter, "int"}) + " }"
		})
	}
	e := g.expr(g.one("int", "list", "list", "map", "text"), 1)
	if g.chance(2) {
		e = g.one("2", "3", "[5, 6]", "map{1: 2, 3: 4}", "\"ab\"")
	}
	key, held := g.fresh("k"), g.fresh("h")
	return g.into(true, func() string {
		head := g.one(key, key+", "+held, "_, "+held, key+", _", "_")
		var vars []local
		for _, v := range []string{key, held} {
			if strings.Contains(head, v) {
				vars = append(vars, local{v, "any"})
			}
		}
		return "for " + head + " in " + e + " " + g.block(3, vars...)
	})
}

func (g *writer) choose() string {
	of, kind := g.expr(g.one("int", "int", "any"), 1)+" ", "int"
	if g.chance(3) {
		of, kind = "", "bool"
	}
	return g.into(false, func() string {
		out := "switch " + of + "{ "
		cases := g.IntN(5)
		fallback := g.IntN(2 * (cases + 1))
		for i := range cases {
			if i == fallback {
				out += "default: "
			} else {
				out += "case " + g.expr(kind, 1) + strings.Repeat(", "+g.expr(kind, 1), g.IntN(3)) + ": "
			}
			out += strings.Trim(g.block(2), "{}")
			if i < cases-1 && g.chance(3) {
				out += "fallthrough; "
			}
		}
		return out + "}"
	})
}

func (g *writer) chooseType() string {
	name := g.fresh("t")
	head, vars := name+" := ", []local{{name, "any"}}
	if g.chance(3) {
		head, vars = "", nil
	}
	head += g.expr("any", 1)
	return g.into(false, func() string {
		out := "switch " + head + ".(type) { "
		cases := g.IntN(4)
		fallback := g.IntN(2 * (cases + 1))
		for i := range cases {
			if i == fallback {
				out += "default: "
			} else {
				out += "case " + g.one("nil, ", "", "") + g.typeName() + g.one("", ", nil", ", "+g.typeName()) + ": "
			}
			out += strings.Trim(g.block(2, vars...), "{}")
		}
		return out + "}"
	})
}

// leaving is a statement that goes on elsewhere: most of the time on a condition.
func (g *writer) leaving() string {
	out := g.one("return", "return "+g.expr("any", 1), "panic("+g.expr("any", 1)+")")
	if len(g.around) > 0 && !g.chance(5) {
		to := g.around[g.IntN(len(g.around))]
		loop := false
		for _, a := range g.around {
			loop = loop || a.loop
		}
		out = "break"
		if to.label != "" && g.chance(2) {
			out += " " + to.label
		}
		if loop && g.chance(2) {
			out = "continue"
			if to.loop && to.label != "" && g.chance(2) {
				out += " " + to.label
			}
		}
	}
	if g.chance(5) {
		return out
	}
	return "if " + g.expr("bool", 1) + " { " + out + " }"
}
