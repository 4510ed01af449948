package trace_test

import (
	"fmt"
	"math/rand/v2"
	"strings"
)

// grower writes programs by chance that are made of calls: of each kind of func, laid down or not, with panics and recovers between. What is declared calls what was declared ahead of it, so most of them end.
type grower struct {
	*rand.Rand
	names int
	level int      // how much of what is declared may be called
	ints  []string // variables that are seen, with ints mostly
	funcs []string // and with funcs
	left  int      // how many statements more may be written
	deep  int      // how many literals stand around
}

// declared is something that can be called, in several ways: each a func, and its arguments, in which E stands for an int.
type declared struct {
	head string
	ways []string
}

const typesOfGrown = `
type T struct { a }
type W struct { w }
type U struct { .T; .*W; .P; u }
type V struct { .P }
type K = int
type F = func
protocol P { num(0) }
protocol Q { P; get(0) }
`

func allDeclared() []declared {
	return []declared{
		{"func (k K) num()", []string{"K(E).num|", "(U{P: K(E)}).num|", "(&U{P: K(E)}).num|", "K.num|K(E)", "U.num|U{P: K(E)}", "(*U).num|&U{P: K(E)}", "V{P: V{P: K(E)}}.num|", "V.num|V{P: V{P: K(E)}}", "V.num|V{}", "U{}.num|", "K(E).(P).num|"}},
		{"func (t T) get()", []string{"T{a: E}.get|", "(&T{a: E}).get|", "U{T: T{a: E}}.get|", "(&U{}).get|", "T.get|T{a: E}", "(*T).get|&T{}", "(*T).get|nil(*T)", "U.get|U{}", "(*U).get|&U{u: E}", "(U{P: K(E)}).(Q).get|"}},
		{"func (t *T) set(n)", []string{"(&T{}).set|E", "nil(*T).set|E", "(&U{}).set|E", "(*T).set|&T{}, E", "(*U).set|&U{}, E", "(*T).set|nil(*T), E"}},
		{"func (w *W) low(n)", []string{"(&W{}).low|E", "U{}.low|E", "(&U{W: &W{w: E}}).low|E", "U.low|U{}, E", "nil(*W).low|E"}},
		{"func f0()", []string{"f0|", "f0|", "F(f0)|"}},
		{"func f1(n)", []string{"f1|E", "f1|E", "func(f) { return f }(f1)|E"}},
		{"func f2(n, m)", []string{"f2|E, E", "f2|E, CALL"}},
		{"func main()", nil},
	}
}

func (g *grower) chance(n int) bool { return g.IntN(n) == 0 }

func (g *grower) one(all ...string) string { return all[g.IntN(len(all))] }

func (g *grower) fresh() string {
	g.names++
	return fmt.Sprint("v", g.names)
}

// program writes one; some take most of the room first.
func (g *grower) program() string {
	g.names, g.deep = 0, 0
	out := typesOfGrown
	if g.chance(12) {
		out += fmt.Sprintf("var room = func() { x := make(65536); for i in 14 { copy(x, x) }; copy(x[:%d], x) }()\n", 65536-g.IntN(60))
	}
	var bodies []string
	for level, d := range allDeclared() {
		g.level, g.left = level, 9
		g.ints, g.funcs = nil, nil
		for _, name := range []string{"n", "m"} {
			if strings.Contains(d.head[strings.LastIndexByte(d.head, '('):], name) {
				g.ints = append(g.ints, name)
			}
		}
		bodies = append(bodies, d.head+" "+g.block(2+g.IntN(4))+"\n")
	}
	g.Shuffle(len(bodies), func(i, k int) { bodies[i], bodies[k] = bodies[k], bodies[i] })
	out += strings.Join(bodies, "")
	for i := range g.IntN(3) {
		g.level, g.left, g.ints, g.funcs = 7, 0, nil, nil
		out += fmt.Sprintf("var g%d = %s\n", i, g.expr())
	}
	return out
}

// block has variables of its own.
func (g *grower) block(n int) string {
	ints, funcs := g.ints, g.funcs
	out := "{ "
	for range n {
		if g.left--; g.left >= 0 {
			out += g.statement() + g.one("; ", "; ", "\n")
		}
	}
	g.ints, g.funcs = ints[:len(ints):len(ints)], funcs[:len(funcs):len(funcs)]
	return out + "}"
}

func (g *grower) statement() string {
	switch g.IntN(22) {
	case 0, 1, 2, 3:
		return g.call()
	case 4, 5, 6:
		return "defer " + g.call()
	case 7:
		return "defer func() " + g.one("{ recover() }", "{ print(recover()) }", "{ r := recover(); if r != nil { panic([r]) } }") + "()"
	case 8:
		return g.one("recover()", "print(recover())", "defer recover()", "defer func() { func() { recover() }() }()")
	case 9:
		return g.one("panic("+g.expr()+")", "if "+g.condition()+" { panic("+g.expr()+") }", "defer panic("+g.expr()+")")
	case 10:
		return "if " + g.condition() + " " + g.block(2) + g.one("", " else "+g.block(1), " else if "+g.condition()+" "+g.block(1))
	case 11:
		return g.one("for i in ", "for _, i in ") + g.one("2", "3", "[4, 5]", "map{6: 7}", "\"ab\"", g.call()) + " " + g.block(2)
	case 12:
		return "switch " + g.expr() + " { case 1: " + g.call() + "; fallthrough; case " + g.expr() + ": " + g.call() + "; default: " + g.call() + " }"
	case 13:
		return "switch " + g.call() + ".(type) { case int, nil: " + g.call() + "; case error: " + g.call() + " }"
	case 14:
		e := g.expr()
		name := g.fresh()
		g.ints = append(g.ints, name)
		return name + " := " + e
	case 15:
		f := g.function()
		name := g.fresh()
		g.funcs = append(g.funcs, name)
		return name + " := " + f
	case 16:
		return "return " + g.expr()
	case 17:
		return g.one("return nil", "if "+g.condition()+" { return "+g.call()+" }")
	case 18:
		return "{ " + g.call() + " }"
	}
	return "print(" + g.expr() + g.one("", ", "+g.expr()) + ")"
}

func (g *grower) condition() string {
	return g.one("true", "false", g.expr()+" == 1", "1 < 2 && "+g.expr()+" != 2", g.expr())
}

// expr is an int, most of the time.
func (g *grower) expr() string {
	switch k := g.IntN(20); {
	case k < 5:
		return g.one("0", "1", "2", "(-1)")
	case k < 10 && len(g.ints) > 0:
		return g.one(g.ints...)
	case k < 13:
		return g.call()
	case k == 13:
		return g.one("1 / 0", "[1][5]", "nil(*T).a", "\"a\".(int)", "(1 + \"a\")", "([] == [])", "(T{}).none", "nil(*T).none()", "T.none", "(map{[]: 1})")
	case k == 14:
		return "(1 + " + g.expr() + ")"
	}
	return g.one("1", "\"text\"", "[1, nil]", "(T{a: 1})", "(&fault{word: 1, more: \"b\"})", "K(3)", "nil(*T)", "nil")
}

// filled has an int wherever an E stands, and a call for CALL.
func (g *grower) filled(s string) string {
	pieces := strings.Split(s, "E")
	out := pieces[0]
	for _, piece := range pieces[1:] {
		out += g.one("0", "1", "2", "3") + piece
	}
	if strings.Contains(out, "CALL") {
		out = strings.Replace(out, "CALL", g.call(), 1)
	}
	return out
}

// call is one, of a func that is there, and takes so many arguments, most of the time.
func (g *grower) call() string {
	switch k := g.IntN(20); {
	case k < 2 && len(g.funcs) > 0:
		return g.one(g.funcs...) + "(" + g.one("", "", "1", "1, 2") + ")"
	case k == 2:
		return g.one("nil(func)()", "5()", "\"x\"()", "nil(F)(1)", "f1()", "f0(1)", "T.get()", "T.get(5)", "(*T).set(1, 2)", "(&fault{}).Error()", "nil(*fault).Error()", "(*fault).Error(&fault{word: \"w\"})", "(&fault{}).Error(1)")
	case k < 6 && g.deep < 2:
		return g.literal() + "(" + g.one("", "", "", "1") + ")"
	case k == 6:
		return g.one("print(1)", "print()", "len([1])", "len(1)", "append([], 1)", "show(1)", "len()", "make(9)")
	}
	if g.level == 0 {
		return "print(\"low\")"
	}
	ways := allDeclared()[g.IntN(min(g.level, 7))].ways
	head, args, _ := strings.Cut(ways[g.IntN(len(ways))], "|")
	return paren(g.filled(head)) + "(" + g.filled(args) + ")"
}

// paren is a func in brackets, where a block could be taken for what stands in it.
func paren(s string) string {
	if strings.Contains(s, "{") {
		return "(" + s + ")"
	}
	return s
}

// function is a func that is not called.
func (g *grower) function() string {
	if g.level == 0 || g.chance(3) {
		return g.literal()
	}
	ways := allDeclared()[g.IntN(min(g.level, 7))].ways
	head, _, _ := strings.Cut(ways[g.IntN(len(ways))], "|")
	return paren(g.filled(head))
}

func (g *grower) literal() string {
	g.deep++
	defer func() { g.deep-- }()
	return "func(" + g.one("", "", "", "p") + ") " + g.block(1+g.IntN(3))
}
