package peep_test

import (
	"fmt"
	"math"
	"math/rand/v2"
	"slices"
	"strings"

	"guise/api"
	"guise/code"
)

// world is what grown code knows of types.
const world = `
type T struct { x; y }
type E struct { .T; z }
type K = int
type L = list
protocol S { sum(0) }
func (t T) sum() { }
func (t *T) add(n) { }
func main() { }
`

// grown is a right program by chance, with all operations, that a machine takes over the world's table: its beginning calls all others, most of which recover what panics.
func grown(r *rand.Rand) code.Program {
	p := code.Program{Globals: []string{"a", "b", "c"}, Funcs: []code.Func{
		{Around: -1, Slots: 2},
		{Around: -1, Name: "T.sum", Params: 1, Slots: 3},
		{Around: -1, Name: "T.add", Params: 2, Slots: 3},
		{Around: -1, Name: "caught", Code: []code.Inst{step, built("recover", 0), printed(1), ret}},
		{Around: -1, Name: "f", Params: 2, Slots: 2},
		{Around: 4, Name: "func", Params: 1, Slots: 2, Taken: []int{0, 1, 0}},
		{Around: 5, Name: "func", Slots: 3, Taken: []int{-1, -3, 1}},
	}}
	for k := range p.Funcs {
		if k != 3 && k != 0 {
			p.Funcs[k].Code = growCode(r, p, k)
		}
	}
	p.Funcs[0].Code = growCode(r, p, 0)
	return p
}

// coder lays down a function's code that fits: it knows which things lie on the stack where it stands: of values also whether they are ints (i), bools (b) or whatever (v).
type coder struct {
	*rand.Rand
	p      code.Program
	number int
	l      []code.Inst
	stacks []string // of each instruction; "-" if it is not come to
	stack  string
	dead   bool
	open   []pending
	loose  []int // instructions that are not come to and go somewhere
}

// pending is an instruction that goes to one which is not there yet.
type pending struct {
	number int
	stack  string
}

func growCode(r *rand.Rand, p code.Program, number int) []code.Inst {
	c := &coder{Rand: r, p: p, number: number}
	c.prologue()
	for n := c.IntN(40); n > 0; n-- {
		c.land()
		switch {
		case c.dead:
			c.layDead()
		case c.IntN(8) == 0:
			c.layRow()
		default:
			c.lay()
		}
	}
	if number == 0 && !c.dead {
		c.callAll()
	}
	for c.finish(); len(c.open) > 0; c.finish() {
		c.landOn(0)
	}
	c.tighten()
	return c.l
}

// prologue gives the slots something, and mostly lays down a call that recovers.
func (c *coder) prologue() {
	if c.number > 0 && c.IntN(6) > 0 {
		c.add(to(code.OpLiteral, 3))
		c.add(to(code.OpDefer, 0))
	}
	if c.number == 0 || c.p.Funcs[c.number].Params == 0 {
		c.add(bit(c.IntN(2) == 0))
		c.add(to(code.OpFresh, 0))
		c.add(num(c.IntN(5)))
		c.add(to(code.OpFresh, 1))
	}
}

// callAll calls each declared function, some of them twice, and prints what they answer.
func (c *coder) callAll() {
	for _, k := range []int{1, 2, 4, 4} {
		c.add(to(code.OpLiteral, k))
		for i := range c.p.Funcs[k].Params {
			c.add(oneOf(c.Rand, bit(i == 0), bit(c.IntN(2) == 0), num(c.IntN(3)), null))
		}
		c.add(to(code.OpCall, c.p.Funcs[k].Params))
		c.add(printed(1))
		c.add(pop)
	}
}

func (c *coder) add(in code.Inst) {
	in.At = c.IntN(50)
	c.l = append(c.l, in)
	if c.dead {
		c.stacks = append(c.stacks, "-")
	} else {
		c.stacks = append(c.stacks, c.stack)
	}
}

// layRow lays down instructions that are seldom found together by chance.
func (c *coder) layRow() {
	rows := [][]code.Inst{
		{to(code.OpPlaceSlot, 1), num(c.IntN(4)), op(code.OpPut)},
		{to(code.OpPlaceGlobal, 0), op(code.OpFetch), num(1), binary("=="), op(code.OpPut)},
		{to(code.OpLoad, 1), num(0), binary(oneOf(c.Rand, "/", "%", "+")), pop},
		{num(1), num(c.IntN(2)), binary("/"), pop},
		{num(2), to(code.OpList, 1), num(c.IntN(2)), op(code.OpIndex), pop},
		{to(code.OpStruct, 0), {Op: code.OpPlaceField, Text: "x"}, null, op(code.OpPut)},
	}
	rows[5][0].Text = "T"
	switch c.number {
	case 4:
		rows = append(rows, []code.Inst{to(code.OpLiteral, 5), bit(c.IntN(2) == 0), to(code.OpCall, 1), printed(1), pop})
	case 5, 6:
		rows = append(rows, []code.Inst{to(code.OpTaken, c.IntN(3)), to(code.OpStoreTaken, c.IntN(3)), to(code.OpPlaceTaken, 1), no, op(code.OpPut)})
	}
	if c.number == 5 {
		rows = append(rows, []code.Inst{to(code.OpLiteral, 6), to(code.OpCall, 0), printed(1), pop})
	}
	for _, in := range oneOf(c.Rand, rows...) {
		c.add(in)
		takes, on, _ := effect(in)
		if takes == "e" {
			takes = "v"
		}
		c.stack = c.stack[:len(c.stack)-len(takes)] + on
	}
}

// shape is a stack as chapter 13 knows it.
func shape(stack string) string { return strings.NewReplacer("i", "v", "b", "v").Replace(stack) }

// land lets something that fits come here, sometimes.
func (c *coder) land() {
	for k, o := range c.open {
		if (c.dead || shape(o.stack) == shape(c.stack)) && c.IntN(3) == 0 {
			c.landOn(k)
			return
		}
	}
}

func (c *coder) landOn(k int) {
	o := c.open[k]
	c.l[o.number].A = len(c.l)
	c.open = slices.Delete(c.open, k, k+1)
	if c.dead || c.IntN(2) == 0 {
		c.stack = o.stack
	}
	c.dead = false
}

// finish ends what is come to by a return.
func (c *coder) finish() {
	if !c.dead {
		if !strings.HasSuffix(shape(c.stack), "v") {
			c.add(null)
		}
		c.add(ret)
	}
	c.dead = true
}

// tighten lets instructions that are not come to name something that they may name.
func (c *coder) tighten() {
	if last := c.l[len(c.l)-1].Op; last != code.OpReturn && last != code.OpJump {
		c.add(ret)
	}
	for _, i := range c.loose {
		c.l[i].A = min(i+1+c.IntN(len(c.l)-i), len(c.l)-1)
		if c.l[i].A == i {
			c.l[i] = ret
		}
	}
}

func (c *coder) layDead() {
	in := c.some("vvvvvv")
	if in.Op == 0 {
		return
	}
	if goesTo(in.Op) {
		c.loose = append(c.loose, len(c.l))
	}
	c.add(in)
}

// lay lays down an instruction that finds what it takes.
func (c *coder) lay() {
	for range 50 {
		in := c.likely()
		if in.Op == 0 {
			in = c.some(shape(c.stack))
		}
		takes, on, there := effect(in)
		if takes == "e" && c.stack != "" && !strings.HasSuffix(c.stack, "t") {
			takes = shape(c.stack[len(c.stack)-1:])
		}
		if in.Op == 0 || !strings.HasSuffix(shape(c.stack), takes) || len(c.stack)-len(takes)+len(on) > 12 {
			continue
		}
		rest, was := c.stack[:len(c.stack)-len(takes)], c.stack[len(c.stack)-len(takes):]
		c.add(in)
		if goesTo(in.Op) {
			c.goTo(rest + there)
		}
		c.stack = rest + kinds(in, was, on)
		c.dead = in.Op == code.OpJump || in.Op == code.OpReturn
		return
	}
}

// kinds is what an instruction lays there, as far as it is known.
func kinds(in code.Inst, was, on string) string {
	switch {
	case in.Op == code.OpInt, in.Op == code.OpLoad && in.A == 1:
		return "i"
	case in.Op == code.OpBool, in.Op == code.OpLoad && in.A == 0:
		return "b"
	case in.Op == code.OpUnary:
		return was
	case in.Op == code.OpBinary && strings.Contains("== != <= >=", in.Text):
		return "b"
	case in.Op == code.OpBinary:
		return "i"
	case in.Op == code.OpDup:
		return was + was
	}
	return on
}

// goTo leads the last instruction back, if something fits there, or on.
func (c *coder) goTo(stack string) {
	last := len(c.l) - 1
	for i, s := range c.stacks[:last] {
		if s != "-" && shape(s) == shape(stack) && (c.l[i].Op == code.OpStep || c.l[i].Op == code.OpTick) && c.IntN(4) == 0 {
			c.l[last].A = i
			return
		}
	}
	c.open = append(c.open, pending{last, stack})
}

var someInts = []int{0, 1, -1, 2, 3, 5, 63, 64, -64, 100, math.MaxInt, math.MinInt, math.MaxInt - 1, math.MinInt + 1}

// likely is an instruction that is looked for here most of all: constants, and what makes something of them; none, sometimes.
func (c *coder) likely() code.Inst {
	top, below := kindsOf(c.stack)
	switch r := c.IntN(100); {
	case r < 14:
		return num(oneOf(c.Rand, someInts...))
	case r < 28:
		return bit(c.IntN(2) == 0)
	case r < 38 && top == 'i':
		return unary(oneOf(c.Rand, "-", "^", "++", "--"))
	case r < 38 && top == 'b':
		return unary("!")
	case r < 52 && top == 'i' && below == 'i':
		return binary(oneOf(c.Rand, strings.Fields(binaries)...))
	case r < 52 && strings.HasSuffix(shape(c.stack), "vv"):
		return binary(oneOf(c.Rand, "==", "!="))
	case r < 56:
		return step
	case r < 58:
		return tick
	case r < 70 && top == 'b':
		return to(oneOf(c.Rand, code.OpBranch, code.OpBranch, code.OpAnd, code.OpOr), 0)
	case r < 74:
		return jump(0)
	case r < 78:
		return to(code.OpLoad, c.IntN(2))
	case r < 82 && top == 'b':
		return to(code.OpStore, 0)
	case r < 82 && top == 'i':
		return to(code.OpStore, 1)
	case r < 86:
		return printed(min(1, len(c.stack)))
	case r < 89:
		return pop
	case r < 91 && top == 'i':
		return loop
	case r < 95 && top == 't':
		return to(oneOf(c.Rand, code.OpNext, code.OpNext, code.OpDrop), 0)
	}
	return code.Inst{}
}

// kindsOf is what lies on top, and what below it; 0: nothing.
func kindsOf(stack string) (top, below byte) {
	stack = "\x00\x00" + stack
	return stack[len(stack)-1], stack[len(stack)-2]
}

// some is any instruction whose fields may be; its Op is 0, if there is none such here.
func (c *coder) some(stack string) code.Inst {
	in := code.Inst{Op: code.OpStep + code.Op(c.IntN(int(code.OpDrop)))}
	f := c.p.Funcs[c.number]
	many := c.IntN(1 + min(len(stack), 4))
	switch in.Op {
	case code.OpInt, code.OpBool, code.OpFloat, code.OpText, code.OpUnary, code.OpBinary, code.OpTruth, code.OpBuilt, code.OpDeferBuilt:
		return c.plain(in, many)
	case code.OpLoad, code.OpPlaceSlot, code.OpFresh, code.OpStore:
		in.A = c.IntN(f.Slots)
	case code.OpGlobal, code.OpPlaceGlobal, code.OpStoreGlobal:
		in.A = c.IntN(len(c.p.Globals))
	case code.OpTaken, code.OpPlaceTaken, code.OpStoreTaken:
		if len(f.Taken) == 0 {
			return code.Inst{}
		}
		in.A = c.IntN(len(f.Taken))
	case code.OpList, code.OpCall, code.OpDefer, code.OpDrop:
		in.A = many
	case code.OpMap:
		in.A = many / 2
	case code.OpSlice:
		in.A = 2 + c.IntN(2)
		in.B = c.IntN(2 + 2*(3-in.A))
	case code.OpLiteral:
		may := []int{1, 2, 3, 4}
		if c.number >= 4 && c.number < 6 {
			may = append(may, c.number+1, c.number+1)
		}
		in.A = oneOf(c.Rand, may...)
	case code.OpNilOf, code.OpConvert, code.OpSelect, code.OpExpression, code.OpStruct, code.OpAssert, code.OpHolds, code.OpPlaceField:
		return c.typed(in)
	}
	return in
}

// plain is an instruction with a constant or the name of an operation.
func (c *coder) plain(in code.Inst, many int) code.Inst {
	switch in.Op {
	case code.OpInt:
		return num(oneOf(c.Rand, someInts...))
	case code.OpBool:
		in.A = c.IntN(2)
	case code.OpFloat:
		in.Text = fmt.Sprintf("%016x", oneOf(c.Rand, 0, 1<<63, math.Float64bits(1.5), 0x7ff8000000000001))
	case code.OpText:
		in.Text = oneOf(c.Rand, "", "a", "bc", strings.Repeat("t", 30))
	case code.OpUnary:
		in.Text = oneOf(c.Rand, strings.Fields(unaries)...)
	case code.OpBinary:
		in.Text = oneOf(c.Rand, strings.Fields(binaries)...)
	case code.OpTruth:
		in.Text = oneOf(c.Rand, "&&", "||")
	default:
		in.A, in.Text = many, oneOf(c.Rand, strings.Fields("append cap copy delete len make panic print print recover show typeof")...)
	}
	return in
}

// typed is an instruction that names a type of the world, or a field or a method.
func (c *coder) typed(in code.Inst) code.Inst {
	name := oneOf(c.Rand, "x", "y", "z", "T", "sum", "add", "none")
	flag := c.IntN(2)
	switch in.Op {
	case code.OpNilOf:
		in.A, in.Text = flag, []string{oneOf(c.Rand, "L", "list", "map", "func"), oneOf(c.Rand, "T", "E")}[flag]
	case code.OpConvert:
		in.A, in.Text = api.KInt, oneOf(c.Rand, "K", "int")
	case code.OpSelect:
		in.A, in.Text = flag, name
	case code.OpExpression:
		in.A, in.Text = flag, oneOf(c.Rand, "T", "E")+" "+name
	case code.OpStruct:
		in.Text = oneOf(c.Rand, "T", "E", "T x", "E z", "T y x")
		in.A = strings.Count(in.Text, " ")
	case code.OpAssert, code.OpHolds:
		in.A, in.Text = flag, []string{oneOf(c.Rand, "int", "bool", "any", "S", "T", "K", "error"), oneOf(c.Rand, "T", "E")}[flag]
		if in.Op == code.OpHolds && c.IntN(3) == 0 {
			in.A, in.Text = 2, ""
		}
	case code.OpPlaceField:
		in.Text = name
	}
	return in
}

// effect reads chapter 13's table: what is taken, and what is laid there: on, and where A leads to.
func effect(in code.Inst) (takes, on, there string) {
	rows := strings.Fields("int:>v float:>v text:>v bool:>v nil:>v nilof:>v load:>v global:>v taken:>v expression:>v literal:>v placeslot:>p placeglobal:>p placetaken:>p fresh:v> store:v> storeglobal:v> storetaken:v> pop:v> return:v> branch:v> dup:v>vv unary:v>v truth:v>v convert:v>v select:v>v object:v>v assert:v>v holds:v>vv binary:vv>v index:vv>v indextwo:vv>vv and:v>>v or:v>>v placeof:v>p placeindex:vv>p placefield:e>p fetch:p>pv put:pv> turn:v>t next:t>tvv")
	for _, row := range rows {
		name, things, _ := strings.Cut(row, ":")
		if name == opNames[in.Op] {
			parts := append(strings.Split(things, ">"), "")
			return parts[0], parts[1], parts[2]
		}
	}
	values := strings.Repeat("v", in.A)
	switch in.Op {
	case code.OpSlice:
		return "v" + strings.Repeat("v", in.A-in.B%2-in.B/2), "v", ""
	case code.OpList, code.OpStruct, code.OpBuilt:
		return values, "v", ""
	case code.OpMap:
		return values + values, "v", ""
	case code.OpCall:
		return "v" + values, "v", ""
	case code.OpDefer:
		return "v" + values, "", ""
	case code.OpDeferBuilt:
		return values, "", ""
	case code.OpDrop:
		return strings.Repeat("t", in.A), "", ""
	}
	return "", "", ""
}
