package machine_test

import (
	"fmt"
	"math"
	"math/rand/v2"
	"strings"

	"guise/code"
)

// world is what grown code knows of types.
const world = `
type T struct { x; y }
type E struct { .T; z }
type Q struct { .*T; .S; w }
type K = int
type L = list
type N = map
type G = func
protocol S { sum(0) }
func (t T) sum() { }
func (t *T) add(n) { }
func (k K) sum() { }
func (l L) more(n) { }
`

// grown is right code by chance, much of which compile never makes: places that are laid down later, things that lie on the stack below others, variables that were given to nobody.
func grown(r *rand.Rand) code.Program {
	p := code.Program{Globals: []string{"a", "b", "c"}, Funcs: []code.Func{
		{Around: -1, Slots: 6},
		{Around: -1, Name: "T.sum", Params: 1, Slots: 5},
		{Around: -1, Name: "T.add", Params: 2, Slots: 6},
		{Around: -1, Name: "K.sum", Params: 1, Slots: 5},
		{Around: -1, Name: "L.more", Params: 2, Slots: 5},
		{Around: -1, Name: "caught", Slots: 1, Code: asm("step @7; built 0 'recover'; dup; store 0; built 1 'print'; return")},
		{Around: -1, Name: "f", Params: 2, Slots: 7},
		{Around: 6, Name: "func", Params: 1, Slots: 6, Taken: []int{0, 1, 3, 6}},
		{Around: 7, Name: "func", Slots: 6, Taken: []int{-1, -4, 1}},
		{Around: 0, Name: "func", Params: 1, Slots: 5, Taken: []int{0, 5}},
	}}
	for k := range p.Funcs {
		if p.Funcs[k].Code == nil {
			g := &grower{Rand: r, p: p, number: k, left: 10 + r.IntN(30)}
			p.Funcs[k].Code = g.function()
		}
	}
	return p
}

// grower lays down a function's code, statement by statement, each of which leaves the stack as it was.
type grower struct {
	*rand.Rand
	p      code.Program
	number int
	l      []code.Inst
	left   int // how many statements more there may be
}

func (g *grower) function() []code.Inst {
	if g.number == 0 {
		g.beginning()
	} else if g.IntN(5) > 0 {
		g.add("literal 5; defer 0")
	}
	if g.number == 1 || g.IntN(8) == 0 {
		g.answered()
	}
	calls := g.IntN(2) // the literal's: ahead of what may have a fault, or behind it
	if calls == 0 {
		g.within()
	}
	g.statements(3 + g.IntN(6))
	if calls == 1 {
		g.within()
	}
	g.any(2)
	g.add("return")
	return g.l
}

// beginning calls the functions that catch what panics in them, ahead of what would end all.
func (g *grower) beginning() {
	g.add("struct 0 'E'; object; storeglobal 0; list 0; storeglobal 1; literal 6; storeglobal 2")
	for range 3 {
		g.add("literal 6")
		g.plain()
		g.plain()
		g.add("call 2; built 1 'print'; pop; literal 9; int '1'; call 1; pop; struct 0 'T'; select 1 'sum'; call 0; pop")
	}
}

// within calls the literal that stands in the function at hand.
func (g *grower) within() {
	if g.number == 6 || g.number == 7 {
		for range g.literal() {
			g.plain()
		}
		g.add("call %d; pop", g.p.Funcs[g.number+1].Params)
	}
}

// answered: behind a return a laid down call panics, while others wait for their turn; it is come to by chance.
func (g *grower) answered() {
	g.add("bool %d", g.IntN(2))
	branch := len(g.l)
	g.add("branch 0; literal 5; defer 0")
	for range 1 + g.IntN(2) {
		g.any(1)
		g.add("%s", g.one("deferbuilt 1 'panic'", "pop; nil; defer 0", "deferbuilt 1 'cap'"))
	}
	if g.IntN(3) == 0 {
		g.add("literal 5; defer 0")
	}
	g.list(2)
	g.add("return")
	g.l[branch].A = len(g.l)
}

// add lays instructions down, at places by chance.
func (g *grower) add(s string, a ...any) {
	for _, in := range asm(fmt.Sprintf(s, a...)) {
		in.At = g.IntN(60)
		g.l = append(g.l, in)
	}
}

func (g *grower) one(all ...string) string { return oneOf(g.Rand, all...) }

func (g *grower) slot() int { return g.IntN(g.p.Funcs[g.number].Slots) }

// taken is a taken variable's number; a slot's, if there is none: then the other operation is meant.
func (g *grower) taken(with, without string) (string, int) {
	if n := len(g.p.Funcs[g.number].Taken); n > 0 && g.IntN(2) == 0 {
		return with, g.IntN(n)
	}
	return without, g.slot()
}

func (g *grower) statements(n int) {
	for range n {
		if g.left--; g.left > 0 {
			g.statement()
		}
	}
}

func (g *grower) statement() {
	switch g.IntN(20) {
	case 0, 1, 2:
		g.any(3)
		g.store()
	case 3, 4:
		g.any(3)
		g.add("built 1 'print'; pop")
	case 5, 6, 7, 8:
		g.put()
	case 9, 10:
		g.call()
		g.add("%s", g.one("pop", "built 1 'print'; pop", "pop"))
	case 11:
		g.deferred()
	case 12:
		g.choice()
	case 13, 14:
		g.loop()
	case 15:
		g.add("step; jump %d", len(g.l)+2)
		g.add("%s", g.one("tick", "step"))
	case 16:
		g.below()
	case 17:
		g.builtCall()
		g.add("pop")
	case 18:
		g.two()
	case 19:
		g.rare()
	}
}

func (g *grower) store() {
	switch g.IntN(5) {
	case 0:
		g.add("storeglobal %d", g.IntN(3))
	case 1:
		op, n := g.taken("storetaken", "store")
		g.add("%s %d", op, n)
	case 2, 3:
		g.add("fresh %d", g.slot())
	case 4:
		g.add("store %d", g.slot())
	}
}

// put finds a place, and lays something down there; meanwhile something else may be done.
func (g *grower) put() {
	g.place(2)
	switch g.IntN(4) {
	case 0:
		g.add("fetch")
		g.any(1)
		g.add("binary '%s'; put", g.one("+", "-", "*"))
	case 1:
		g.add("fetch; unary '%s'; put", g.one("++", "--"))
	case 2:
		g.statements(1 + g.IntN(2))
		g.any(2)
		g.add("put")
	case 3:
		g.any(2)
		g.add("put")
	}
}

func (g *grower) place(deep int) {
	switch n := g.IntN(10); {
	case n < 2:
		g.add("placeslot %d", g.slot())
	case n < 4:
		op, k := g.taken("placetaken", "placeslot")
		g.add("%s %d", op, k)
	case n < 5:
		g.add("placeglobal %d", g.IntN(3))
	case n < 6:
		g.pointer(1)
		g.add("placeof")
	case n < 7 || deep == 0:
		g.list(1)
		g.add("int '%d'; placeindex", g.IntN(4))
	case n < 8:
		g.mapping(1)
		g.key()
		g.add("placeindex")
	case n < 9:
		g.place(deep - 1)
		g.add("placefield '%s'", g.one("x", "y", "z", "T", "w"))
	default:
		g.any(1)
		g.add("placefield '%s'", g.one("x", "y", "z", "T", "S", "sum", "none"))
	}
}

// call leaves an answer.
func (g *grower) call() {
	args := 0
	switch g.IntN(8) {
	case 0:
		g.structure(1)
		g.add("select %d 'sum'", g.IntN(2))
	case 1:
		g.pointer(1)
		g.add("select %d '%s'", g.IntN(2), g.one("add", "add", "sum"))
		args = 1
	case 2:
		g.add("expression %s", g.one("0 'T sum'", "1 'T add'", "1 'E add'", "0 'K sum'", "0 'Q sum'", "1 'Q add'", "0 'E sum'", "0 'T add'", "1 'fault Error'"))
		args = 1 + g.IntN(2)
	case 3:
		g.any(1)
		g.add("select 1 '%s'", g.one("sum", "add", "more", "Error", "x"))
		args = g.IntN(2)
	case 4, 5:
		if args = g.literal(); g.IntN(8) == 0 {
			args = g.IntN(3)
		}
	case 6:
		g.add("literal %d", 1+g.IntN(6))
		args = g.IntN(3)
	default:
		g.any(1)
		args = g.IntN(3)
	}
	for range args {
		g.any(1)
	}
	g.add("call %d", args)
}

// literal leaves one of the function at hand, if there is one; it tells how many arguments that wants.
func (g *grower) literal() int {
	for k, f := range g.p.Funcs {
		if f.Around == g.number {
			g.add("literal %d", k)
			return f.Params
		}
	}
	g.add("literal 6")
	return 2
}

func (g *grower) deferred() {
	if g.IntN(3) == 0 {
		g.any(1)
		g.add("deferbuilt 1 '%s'", g.one("print", "print", "panic", "recover", "len", "show"))
		return
	}
	args := g.IntN(2)
	if g.IntN(2) == 0 {
		args = g.literal()
	} else {
		g.any(1)
	}
	for range args {
		g.any(1)
	}
	g.add("defer %d", args)
}

func (g *grower) condition() {
	switch g.IntN(5) {
	case 0:
		g.any(1)
		g.any(1)
		g.add("binary '%s'", g.one("==", "!=", "<", ">="))
	case 1:
		g.any(1)
	case 2:
		g.add("bool %d", g.IntN(2))
		g.add("%s %d", g.one("and", "or"), len(g.l)+3)
		g.add("bool %d; truth '&&'", g.IntN(2))
	default:
		g.add("bool %d", g.IntN(2))
	}
}

func (g *grower) choice() {
	g.condition()
	branch := len(g.l)
	g.add("branch 0")
	g.statements(1 + g.IntN(2))
	jump := len(g.l)
	g.add("jump 0")
	g.l[branch].A = len(g.l)
	g.statements(g.IntN(2))
	g.l[jump].A = len(g.l)
}

// loop goes over something, or on while a condition holds; it may be left from within.
func (g *grower) loop() {
	over := g.IntN(3) > 0
	if over {
		g.ranged()
		g.add("turn")
	}
	jump := len(g.l)
	g.add("jump 0")
	back := len(g.l)
	g.add("tick")
	if over {
		g.add("fresh %d; fresh %d", g.slot(), g.slot())
	}
	g.statements(1 + g.IntN(3))
	leave := -1
	if over && g.IntN(3) == 0 {
		g.add("bool %d; branch %d", g.IntN(2), len(g.l)+4)
		g.add("drop 1")
		leave = len(g.l)
		g.add("jump 0")
	}
	g.l[jump].A = len(g.l)
	exit := len(g.l)
	if over {
		g.add("next 0; jump %d", back)
	} else {
		g.condition()
		exit = len(g.l)
		g.add("branch 0; jump %d", back)
	}
	g.l[exit].A = len(g.l)
	if leave >= 0 {
		g.l[leave].A = len(g.l)
	}
}

func (g *grower) ranged() {
	switch g.IntN(6) {
	case 0:
		g.add("int '%d'", g.IntN(4))
	case 1:
		g.add("text '%s'", g.one("", "ab", "xyz"))
	case 2:
		g.list(2)
	case 3:
		g.any(1)
	default:
		g.mapping(2)
	}
}

// below leaves something on the stack, while something else is done.
func (g *grower) below() {
	switch g.IntN(3) {
	case 0:
		g.any(2)
		g.statements(2)
		g.add("pop")
	case 1:
		g.place(1)
		g.statements(2)
		g.add("nil; put")
	case 2:
		g.ranged()
		g.add("turn")
		g.statements(2)
		g.add("drop 1")
	}
}

func (g *grower) builtCall() {
	switch g.IntN(9) {
	case 0:
		g.list(1)
		g.any(1)
		g.add("built 2 'append'")
	case 1:
		g.list(1)
		g.list(1)
		g.add("built 2 'copy'")
	case 2:
		g.mapping(1)
		g.key()
		g.add("built 2 'delete'")
	case 3:
		g.add("int '%d'; built 1 'make'", g.IntN(5))
	case 4:
		g.any(1)
		g.add("built 1 'panic'")
	case 5:
		g.add("built 0 'recover'")
	default:
		g.any(1)
		g.add("built 1 '%s'", g.one("len", "cap", "show", "typeof", "make", "append", "print"))
	}
}

// two are instructions that lay two values.
func (g *grower) two() {
	if g.IntN(2) == 0 {
		g.mapping(1)
		g.key()
		g.add("indextwo")
	} else {
		g.any(1)
		g.add("holds %s", g.one("0 'int'", "0 'S'", "1 'T'", "0 'T'", "2", "0 'any'", "0 'error'", "1 'E'"))
	}
	g.store()
	g.store()
}

func (g *grower) rare() {
	g.any(1)
	switch g.IntN(9) {
	case 0:
		g.add("assert %s; pop", g.one("0 'int'", "0 'S'", "1 'T'", "0 'T'", "0 'any'", "1 'Q'"))
	case 1:
		g.add("convert %s; pop", g.one("2 'K'", "2 'int'", "3 'float'", "5 'L'", "6 'N'", "7 'G'", "4 'text'", "1 'bool'"))
	case 2:
		g.add("truth '%s'; pop", g.one("&&", "||"))
	case 3:
		g.add("return")
		g.add("nil; pop") // nobody comes here
	case 4:
		g.add("dup; built 2 'print'; pop")
	case 5:
		g.add("unary '%s'; pop", g.one("-", "!", "^", "*", "++"))
	case 6:
		g.add("pop; int '1'; int '%d'; binary '%s'; pop", g.IntN(2), g.one("/", "%"))
	case 7:
		g.add("dup; binary '%s'; pop", g.one("==", "!="))
		g.list(1)
		g.add("dup; binary '=='; pop")
	case 8:
		g.add("int '%d'; built 1 'make'; built 2 'print'; pop", oneOf(g.Rand, -1, 0, 65537, 3))
	}
}

func (g *grower) key() {
	switch g.IntN(8) {
	case 0:
		g.add("float '%016x'", oneOf(g.Rand, 0, 1<<63, math.Float64bits(1.5), 0x7ff8000000000001))
	case 1:
		g.structure(1)
	case 2:
		g.any(1)
	default:
		g.add("int '%d'", g.IntN(3))
	}
}

func (g *grower) list(deep int) {
	if g.IntN(3) == 0 {
		g.add("global 1")
		return
	}
	n := g.IntN(3)
	for range n {
		g.any(deep - 1)
	}
	g.add("list %d", n)
	if g.IntN(4) == 0 {
		g.add("int '0'; int '%d'; slice 2", g.IntN(3))
	}
}

func (g *grower) mapping(deep int) {
	if g.IntN(3) == 0 {
		g.add("load %d", g.slot())
		return
	}
	n := g.IntN(4)
	for range n {
		g.key()
		g.any(deep - 1)
	}
	g.add("map %d", n)
}

func (g *grower) structure(deep int) {
	switch g.IntN(5) {
	case 0:
		g.any(deep - 1)
		g.add("struct 1 'T %s'", g.one("x", "y"))
	case 1:
		g.pointer(0)
		g.any(deep - 1)
		g.add("struct 2 'Q T w'")
	case 2:
		g.structure(0)
		g.add("struct 1 '%s'", g.one("E T", "Q S", "E z"))
	default:
		g.add("struct 0 '%s'", g.one("T", "E", "Q", "fault"))
	}
}

func (g *grower) pointer(deep int) {
	switch {
	case g.IntN(3) == 0:
		g.add("global 0")
	case deep > 0:
		g.structure(deep - 1)
		g.add("object")
	default:
		g.add("%s", g.one("nilof 1 'T'", "struct 0 'T'; object", "nilof 1 'E'"))
	}
}

// any leaves a value.
func (g *grower) any(deep int) {
	if deep <= 0 {
		g.plain()
		return
	}
	switch g.IntN(16) {
	case 0:
		g.list(deep)
	case 1:
		g.mapping(deep)
	case 2:
		g.structure(deep)
	case 3:
		g.pointer(deep)
	case 4:
		g.any(deep - 1)
		g.any(deep - 1)
		g.add("binary '%s'", g.one("+", "-", "*", "/", "%", "==", "!=", "<", "<<", "&", ">>"))
	case 5:
		g.list(deep)
		g.add("int '%d'; index", g.IntN(3))
	case 6:
		g.pointer(deep)
		g.add("select 0 '%s'", g.one("x", "y", "z", "T", "sum", "add"))
	case 7:
		g.literal()
	case 8:
		g.builtCall()
	case 9:
		g.call()
	case 10:
		g.add("expression %s", g.one("0 'T sum'", "1 'T add'", "0 'K sum'"))
	case 11:
		g.add("text 'abc'; int '1'; slice 2 /%d", 1+g.IntN(2))
	case 12:
		g.mapping(deep)
		g.key()
		g.add("index")
	case 13:
		g.add("int '%d'; convert 2 'K'", g.IntN(5))
	default:
		g.plain()
	}
}

// plain leaves a constant, or what a variable has.
func (g *grower) plain() {
	switch g.IntN(12) {
	case 0:
		g.add("nil")
	case 1:
		g.add("bool %d", g.IntN(2))
	case 2:
		g.add("text '%s'", g.one("", "a", strings.Repeat("t", 20)))
	case 3:
		g.add("float '%016x'", oneOf(g.Rand, 0, 1<<63, math.Float64bits(2.5), 0x7ff8000000000001))
	case 4:
		g.add("nilof %s", g.one("0 'list'", "0 'N'", "0 'func'", "1 'T'", "0 'map'", "1 'fault'"))
	case 5, 6:
		g.add("global %d", g.IntN(3))
	case 7:
		op, n := g.taken("taken", "load")
		g.add("%s %d", op, n)
	case 8, 9:
		g.add("load %d", g.slot())
	default:
		g.add("int '%d'", oneOf(g.Rand, 0, 1, 2, 3, -1, 63, math.MaxInt, math.MinInt))
	}
}
