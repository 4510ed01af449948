package code_test

import (
	"fmt"
	"math"
	"math/rand/v2"
	"slices"
	"strconv"
	"strings"
	"testing"

	"guise/api"
	"guise/code"
)

// grower makes programs by chance.
type grower struct {
	*rand.Rand
	p code.Program
}

// grown is a program that is right.
func grown(r *rand.Rand) code.Program {
	g := &grower{Rand: r}
	for i := range r.IntN(4) {
		g.p.Globals = append(g.p.Globals, g.name()+strconv.Itoa(i))
	}
	for i := range 1 + r.IntN(6) {
		g.p.Funcs = append(g.p.Funcs, g.function(i))
	}
	for i := range g.p.Funcs {
		g.p.Funcs[i].Code = (&coder{grower: g, number: i}).code()
	}
	return g.p
}

func (g *grower) name() string {
	return oneOf(g.Rand, "a", "T", "x1", "_", "list", "Any", "main", "n"+longName[5:])
}

func (g *grower) function(i int) code.Func {
	f := code.Func{Around: -1, Slots: g.IntN(4)}
	if i == 0 {
		return f
	}
	f.Params = g.IntN(f.Slots + 1)
	switch g.IntN(3) {
	case 0:
		f.Name = g.name() + strconv.Itoa(i)
	case 1:
		f.Name = g.name() + "." + g.name() + strconv.Itoa(i)
	default:
		f.Name, f.Around = "func", g.IntN(i)
		around := g.p.Funcs[f.Around]
		for n := around.Slots + len(around.Taken); n > 0 && g.IntN(4) > 0; {
			f.Taken = append(f.Taken, g.IntN(n)-len(around.Taken))
		}
	}
	return f
}

// coder lays down a function's code that fits: it knows which stack lies where.
type coder struct {
	*grower
	number int
	l      []code.Inst
	stacks []string // of each instruction; "-" if it is not come to
	stack  string
	dead   bool
	open   []pending
	loose  []int // instructions that are not come to and go somewhere
}

// pending is an instruction that goes to one which is not there yet.
type pending struct {
	number int
	stack  string
}

func (c *coder) code() []code.Inst {
	for n := c.IntN(25); n > 0; n-- {
		c.resolve()
		if c.dead {
			c.layDead()
		} else {
			c.lay()
		}
	}
	for c.dead = c.dead || c.end(); len(c.open) > 0; c.end() {
		c.land(0)
	}
	if len(c.l) == 0 || c.l[len(c.l)-1].Op != code.OpReturn && c.l[len(c.l)-1].Op != code.OpJump {
		c.add(code.Inst{Op: code.OpReturn})
	}
	for _, i := range c.loose {
		c.l[i].A = i + 1 + c.IntN(len(c.l)-i)
		if c.l[i].A == len(c.l) {
			c.l[i].A = len(c.l) - 1
		}
		if c.l[i].A == i {
			c.l[i] = ret
		}
	}
	return c.l
}

func (c *coder) add(in code.Inst) {
	if in.At == 0 && c.IntN(2) == 0 {
		in.At = oneOf(c.Rand, c.IntN(api.MaxSource+1), api.MaxSource, c.IntN(100))
	}
	c.l = append(c.l, in)
	if c.dead {
		c.stacks = append(c.stacks, "-")
	} else {
		c.stacks = append(c.stacks, c.stack)
	}
}

// end ends what is come to by a return.
func (c *coder) end() bool {
	c.add(null)
	c.stack += "v"
	c.add(ret)
	c.dead = true
	return true
}

// land lets what is open come here.
func (c *coder) land(k int) {
	o := c.open[k]
	c.l[o.number].A = len(c.l)
	c.stack, c.dead = o.stack, false
	c.open = slices.Delete(c.open, k, k+1)
}

// resolve lets one that fits come here, sometimes.
func (c *coder) resolve() {
	for k, o := range c.open {
		if (c.dead || o.stack == c.stack) && c.IntN(2) == 0 {
			c.land(k)
			return
		}
	}
}

func (c *coder) layDead() {
	in := c.inst(code.Op(1+c.IntN(len(operations))), "vvvvvv")
	if in.Op == 0 {
		return
	}
	if goesTo(in.Op) {
		c.loose = append(c.loose, len(c.l))
	}
	c.add(in)
}

// lay lays down an instruction that finds what it takes.
func (c *coder) lay() {
	for range 50 {
		in := c.inst(code.Op(1+c.IntN(len(operations))), c.stack)
		if in.Op == 0 {
			continue
		}
		takes, on, away := modelEffect(in)
		if takes == "x" && c.stack != "" && !strings.HasSuffix(c.stack, "t") {
			takes = c.stack[len(c.stack)-1:]
		}
		rest, finds := strings.CutSuffix(c.stack, takes)
		if !finds || len(rest+on) > 200 {
			continue
		}
		c.add(in)
		if goesTo(in.Op) {
			c.goTo(rest + away)
		}
		c.stack = rest + on
		c.dead = in.Op == code.OpJump || in.Op == code.OpReturn
		return
	}
}

// goTo leads the last instruction back, if something fits there, or on.
func (c *coder) goTo(stack string) {
	last := len(c.l) - 1
	for i, s := range c.stacks[:last] {
		if s == stack && (c.l[i].Op == code.OpStep || c.l[i].Op == code.OpTick) && c.IntN(2) == 0 {
			c.l[last].A = i
			return
		}
	}
	c.open = append(c.open, pending{last, stack})
}

// inst is an instruction with fields that may be; its Op is 0, if there is none such here.
func (c *coder) inst(o code.Op, stack string) code.Inst {
	in := code.Inst{Op: o}
	f := c.p.Funcs[c.number]
	count := 0
	switch cells[o][1] {
	case "flag":
		count = 2
	case "flag or nil":
		count = 3
	case "slot":
		count = f.Slots
	case "global":
		count = len(c.p.Globals)
	case "taken":
		count = len(f.Taken)
	case "kind":
		in.A = 1 + c.IntN(7)
	case "two or three":
		in.A = 2 + c.IntN(2)
		in.B = c.IntN(2 + 2*(3-in.A))
	case "many", "fields":
		count = 1 + min(len(stack), 5)
	case "function":
		var may []int
		for k, g := range c.p.Funcs {
			if k > 0 && (g.Around == -1 || g.Around == c.number) {
				may = append(may, k)
			}
		}
		if len(may) == 0 {
			return code.Inst{}
		}
		in.A = oneOf(c.Rand, may...)
	}
	if count > 0 {
		in.A = c.IntN(count)
	} else if slices.Contains([]string{"slot", "global", "taken"}, cells[o][1]) {
		return code.Inst{}
	}
	in.Text = c.text(in)
	return in
}

func (c *coder) text(in code.Inst) string {
	switch cells[in.Op][3] {
	case "int":
		return strconv.Itoa(oneOf(c.Rand, 0, 1, -1, c.IntN(1000)-500, math.MaxInt, math.MinInt, int(c.Uint64())))
	case "float":
		bits := oneOf(c.Rand, 0, 1<<63, 0x3ff0000000000000, 0x7ff8000000000001, 0x7ff0000000000000, c.Uint64())
		if f := math.Float64frombits(bits); f != f {
			bits = 0x7ff8000000000001
		}
		return fmt.Sprintf("%016x", bits)
	case "text":
		return oneOf(c.Rand, "", "a", "a b", "\"\\\n\t\x00\xff", "func x 0 0", string([]byte{byte(c.IntN(256)), byte(c.IntN(256))}), strings.Repeat("t", c.IntN(300)))
	case "type":
		if in.A == 2 {
			return ""
		}
		if in.A == 0 && c.IntN(2) == 0 {
			return oneOf(c.Rand, "any", "map", "func")
		}
		return c.name()
	case "but any":
		if (in.Op == code.OpConvert || in.A == 0) && c.IntN(2) == 0 {
			return oneOf(c.Rand, "map", "func")
		}
		return c.name()
	case "name":
		return c.name()
	case "two names":
		return c.name() + " " + c.name()
	case "names":
		s := c.name()
		for i := range in.A {
			s += " " + c.name() + strconv.Itoa(i)
		}
		return s
	case "unary":
		return oneOf(c.Rand, strings.Fields("- ! ^ * ++ --")...)
	case "binary":
		return oneOf(c.Rand, strings.Fields("+ - * / % & | ^ << >> == != < <= > >=")...)
	case "truth":
		return oneOf(c.Rand, "&&", "||")
	case "built-in":
		return oneOf(c.Rand, strings.Fields("append cap copy delete len make panic print recover show typeof")...)
	}
	return ""
}

// mutated is a program in which something is another: it may be right or not.
func mutated(r *rand.Rand, p code.Program) code.Program {
	p = apart(p)
	for range 1 + r.IntN(2) {
		if len(p.Funcs) == 0 || r.IntN(12) == 0 {
			mutateWhole(r, &p)
			continue
		}
		k := r.IntN(len(p.Funcs))
		if r.IntN(5) == 0 {
			mutateFunction(r, &p.Funcs[k])
		} else {
			mutateCode(r, &p.Funcs[k])
		}
	}
	return p
}

func mutateWhole(r *rand.Rand, p *code.Program) {
	switch r.IntN(5) {
	case 0:
		p.Globals = append(p.Globals, oneOf(r, "new", "a", "", "if", "a b", "T0"))
	case 1:
		if len(p.Globals) > 0 {
			p.Globals = p.Globals[1:]
		}
	case 2:
		if len(p.Funcs) > 0 {
			p.Funcs = append(p.Funcs, oneOf(r, p.Funcs...))
		}
	case 3:
		if len(p.Funcs) > 0 {
			k := r.IntN(len(p.Funcs))
			p.Funcs = slices.Delete(p.Funcs, k, k+1)
		}
	default:
		if len(p.Funcs) > 1 {
			i, j := r.IntN(len(p.Funcs)), r.IntN(len(p.Funcs))
			p.Funcs[i], p.Funcs[j] = p.Funcs[j], p.Funcs[i]
		}
	}
}

func mutateFunction(r *rand.Rand, f *code.Func) {
	n := oneOf(r, 0, 1, -1, 2, 3, -2, 13, 14, 20000, 20001)
	switch r.IntN(6) {
	case 0:
		f.Name = oneOf(r, "", "func", "f", "T.m", "T.m.n", "if", "-", f.Name+"x")
	case 1:
		f.Params = n
	case 2:
		f.Slots = n
	case 3:
		f.Around = n
	case 4:
		f.Taken = append(f.Taken, n)
	default:
		if len(f.Taken) > 0 {
			f.Taken = f.Taken[1:]
		}
	}
}

func mutateCode(r *rand.Rand, f *code.Func) {
	if len(f.Code) == 0 {
		f.Code = append(f.Code, ret)
		return
	}
	i := r.IntN(len(f.Code))
	in := &f.Code[i]
	n := oneOf(r, 0, 1, -1, 2, 3, 4, 7, 30, 31, 20000, 20001, len(f.Code)-1, len(f.Code), i, i+1, i-1, r.IntN(len(f.Code)))
	switch r.IntN(11) {
	case 0:
		in.Op = code.Op(r.IntN(55))
	case 1, 2:
		in.A = n
	case 3:
		in.B = n
	case 4:
		in.At = oneOf(r, 0, 1, -1, 60000, 60001)
	case 5:
		in.Text = oneOf(r, "", "a", "any", "map", "T m", "T a b", "-", "&&", "==", "0", "-1", "print", "if", "0000000000000000", in.Text+"x", in.Text+" x")
	case 6:
		f.Code = slices.Delete(f.Code, i, i+1)
	case 7:
		f.Code = slices.Insert(f.Code, i, oneOf(r, null, pop, ret, step, tick, yes, turn, op(code.OpDup), to(code.OpDrop, 1), to(code.OpDrop, 0)))
	case 8:
		f.Code = slices.Insert(f.Code, i, f.Code[i])
	case 9:
		j := r.IntN(len(f.Code))
		f.Code[i], f.Code[j] = f.Code[j], f.Code[i]
	default:
		f.Code[i] = oneOf(r, null, pop, ret, step, tick, yes, turn, jump(n), branch(n), to(code.OpAnd, n), to(code.OpNext, n))
	}
}

// What grows is right, and has all operations in it, come to and not.
func TestGrown(t *testing.T) {
	r := dice(1)
	count := map[string]int{}
	for range 3000 {
		p := grown(r)
		if got := modelRight(p); got != "ok" {
			t.Fatalf("what has grown is not right: %s\n%s", got, written(p))
		}
		for _, f := range p.Funcs {
			for i, in := range f.Code {
				count[cells[in.Op][0]]++
				if goesTo(in.Op) && in.A <= i {
					count["back"]++
				}
			}
			if len(f.Taken) > 0 {
				count["taken"]++
			}
		}
	}
	for _, o := range append(names(), "back", "taken") {
		if count[o] < 30 {
			t.Errorf("%s came %d times by chance", o, count[o])
		}
	}
}

func names() []string {
	var out []string
	for _, o := range operations {
		out = append(out, o.name)
	}
	return out
}
