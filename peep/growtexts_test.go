package peep_test

import (
	"fmt"
	"math/rand/v2"
	"strings"
)

// writer writes programs by chance in which much is known ahead: constants, conditions, loops that are not begun or go on.
type writer struct {
	*rand.Rand
	names int
	left  int // how many statements more may be written
	loops []string
}

const textWorld = `
type P struct { x; y }
protocol S { sum(0) }
func (p P) sum() { if !false { return p.x }; return -1 }
func (p *P) set(n) { p.x = n; return p }
var g = 1 + 2 * 3
var h = [1 < 2, !true, -5]
func caught() { r := recover(); if r != nil { print("caught", r) } }
`

// writtenText is a program's text by chance.
func writtenText(r *rand.Rand) string {
	w := &writer{Rand: r}
	out := textWorld
	for i := range 3 {
		w.left = 14
		out += fmt.Sprintf("func f%d(a, b) { defer caught(); %s return %s }\n", i, w.statements(5), w.expr(2))
	}
	w.left = 14
	return out + "func main() { a := 1; b := true; " + w.statements(6) + "print(f0(1, true), f1(g, false), f2(f0, h)) }\n"
}

func (w *writer) one(all ...string) string { return oneOf(w.Rand, all...) }

// constant is an int or a bool that is known.
func (w *writer) constant() string {
	return w.one("0", "1", "2", "7", "63", "9223372036854775807", "true", "false", "(1 < 2)", "-1", "!true", "^0", "(3 == 3)", "(1 == true)", "(5 % 3)", "(1 << 63)", "(1 / 0)", "-true")
}

// condition is most often known.
func (w *writer) condition() string {
	return w.one("true", "false", "!false", "1 < 2", "1 + 1 == 3", "b", "a == 1", "true && false", "b || true", "false && b", "1", "!(2 > 1)", "g != 7", "len(h) == 3", "false || !b")
}

func (w *writer) expr(deep int) string {
	if deep == 0 || w.IntN(4) == 0 {
		return w.one("a", "b", "g", "h", "nil", `"s"`, "1.5", w.constant(), w.constant(), w.constant())
	}
	e := func() string { return w.expr(deep - 1) }
	switch w.IntN(9) {
	case 0, 1:
		return "(" + w.one("1", "2", "a", "-3") + " " + w.one(strings.Fields("+ - * / % & | ^ << >>")...) + " " + w.one("0", "1", "5", "-1", "g") + ")"
	case 2:
		return "(" + e() + " " + w.one("==", "!=") + " " + w.constant() + ")"
	case 3:
		return "(" + w.condition() + " " + w.one("&&", "||") + " " + w.condition() + ")"
	case 4:
		return w.one("-", "!", "^") + w.one("1", "true", "a", "b")
	case 5:
		return "[" + e() + ", " + e() + "]"
	case 6:
		return "func(a) { " + w.one("return a", "if false { return 1 }; return "+e(), "for true { return b }") + " }(" + e() + ")"
	case 7:
		return "P{x: " + e() + "}.x"
	}
	return "(&P{}).set(" + e() + ").sum()"
}

func (w *writer) statements(n int) string {
	out := ""
	for range n {
		if w.left--; w.left > 0 {
			out += w.statement() + "; "
		}
	}
	return out
}

func (w *writer) block() string { return "{ " + w.statements(1+w.IntN(3)) + "}" }

// body is a loop's, or a switch's, that may be left.
func (w *writer) body(label string, loop bool) string {
	if loop {
		w.loops = append(w.loops, label)
		defer func() { w.loops = w.loops[:len(w.loops)-1] }()
	}
	return w.statements(1 + w.IntN(3))
}

func (w *writer) statement() string {
	w.names++
	label := fmt.Sprint("L", w.names)
	switch w.IntN(14) {
	case 0, 1:
		return "if " + w.condition() + " " + w.block() + w.one("", " else "+w.block(), " else if "+w.condition()+" "+w.block()+" else "+w.block())
	case 2:
		return label + ": for " + w.one(w.condition(), "") + " { " + w.body(label, true) + w.one("break", "") + " }"
	case 3:
		return label + ": for i, v in " + w.one("3", "h", "0", "map{1: 2}", `"ab"`) + " { print(i, v); " + w.body(label, true) + "}"
	case 4:
		return "switch " + w.one("a", "1", "true", "g") + " { case 1, " + w.constant() + ": " + w.body("", false) + w.one("fallthrough", "") + "; case true: " + w.body("", false) + "; default: " + w.body("", false) + "}"
	case 5:
		return "switch { case " + w.condition() + ": " + w.body("", false) + "; case " + w.condition() + ": " + w.body("", false) + "}"
	case 6:
		return "switch v := (" + w.expr(1) + ").(type) { case int, S: print(v); case nil: " + w.body("", false) + "; default: print(\"other\") }"
	case 7:
		if len(w.loops) > 0 {
			return "if " + w.condition() + " { " + w.one("break ", "continue ") + w.one(w.loops...) + " }"
		}
		return "return " + w.expr(1)
	case 8:
		return "defer print(" + w.expr(1) + ")"
	case 9:
		return w.one("g", "a") + w.one(" = ", " += ", " = ") + w.expr(2)
	case 10:
		return w.one("g", "a") + w.one("++", "--")
	case 11:
		return "b = " + w.condition()
	}
	return "print(" + w.expr(2) + ")"
}
