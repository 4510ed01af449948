package machine_test

import (
	"fmt"
	"slices"
	"strconv"
	"strings"

	"guise/api"
	"guise/assert"
	"guise/code"
	"guise/number"
	"guise/value"
)

func (c *playing) lay(things ...thing) { c.stack = append(c.stack, things...) }

func (c *playing) off() thing {
	last := len(c.stack) - 1
	x := c.stack[last]
	c.stack = c.stack[:last]
	return x
}

func (c *playing) value() api.Datum { return c.off().(api.Datum) }

// values takes so many off; the first one lay lowest.
func (c *playing) values(n int) []api.Datum {
	out := make([]api.Datum, n)
	for i := range out {
		out[n-1-i] = c.value()
	}
	return out
}

// slot is the variable of a slot, which is given one, if it has none.
func (m *player) slot(c *playing, i int) int {
	if c.slots[i] == 0 {
		c.slots[i] = m.box(api.Datum{})
	}
	return c.slots[i]
}

// doings is what the operations do, by rows of one kind.
func doings() map[code.Op]doing {
	out := map[code.Op]doing{}
	for _, row := range []map[code.Op]doing{counting(), constants(), variables(), operations(), makings(), jumps(), placings(), callings()} {
		for op, do := range row {
			out[op] = do
		}
	}
	return out
}

func counting() map[code.Op]doing {
	return map[code.Op]doing{
		code.OpStep: func(m *player, c *playing, in code.Inst) {
			m.step()
			c.hand = in.At
			m.event(1, in.At, "")
		},
		code.OpTick: func(m *player, c *playing, in code.Inst) { m.step() },
		code.OpPop:  func(m *player, c *playing, in code.Inst) { c.value() },
		code.OpDup: func(m *player, c *playing, in code.Inst) {
			v := c.value()
			c.lay(v, v)
		},
	}
}

func constants() map[code.Op]doing {
	return map[code.Op]doing{
		code.OpInt: func(m *player, c *playing, in code.Inst) {
			n, err := strconv.Atoi(in.Text)
			m.right(err)
			c.lay(integer(n))
		},
		code.OpFloat: func(m *player, c *playing, in code.Inst) {
			bits, err := strconv.ParseUint(in.Text, 16, 64)
			m.right(err)
			c.lay(api.Datum{Kind: api.KFloat, Type: "float", F: bits})
		},
		code.OpText: func(m *player, c *playing, in code.Inst) { c.lay(text(in.Text)) },
		code.OpBool: func(m *player, c *playing, in code.Inst) { c.lay(truth(in.A == 1)) },
		code.OpNil:  func(m *player, c *playing, in code.Inst) { c.lay(api.Datum{}) },
		code.OpNilOf: func(m *player, c *playing, in code.Inst) {
			kind, _ := m.table.Under(in.Text)
			if in.A == 1 {
				kind = api.KPointer
			}
			c.lay(api.Datum{Kind: kind, Type: in.Text})
		},
	}
}

func variables() map[code.Op]doing {
	return map[code.Op]doing{
		code.OpLoad: func(m *player, c *playing, in code.Inst) {
			if c.slots[in.A] == 0 {
				c.lay(api.Datum{})
			} else {
				c.lay(m.open(c.slots[in.A]))
			}
		},
		code.OpGlobal:      func(m *player, c *playing, in code.Inst) { c.lay(m.open(m.globals[in.A])) },
		code.OpTaken:       func(m *player, c *playing, in code.Inst) { c.lay(m.open(c.taken[in.A])) },
		code.OpFresh:       func(m *player, c *playing, in code.Inst) { c.slots[in.A] = m.box(c.value()) },
		code.OpStore:       func(m *player, c *playing, in code.Inst) { m.heap.Set(m.slot(c, in.A), c.value()) },
		code.OpStoreGlobal: func(m *player, c *playing, in code.Inst) { m.heap.Set(m.globals[in.A], c.value()) },
		code.OpStoreTaken:  func(m *player, c *playing, in code.Inst) { m.heap.Set(c.taken[in.A], c.value()) },
	}
}

func operations() map[code.Op]doing {
	return map[code.Op]doing{
		code.OpUnary: func(m *player, c *playing, in code.Inst) { c.lay(m.unary(in.Text, c.value())) },
		code.OpBinary: func(m *player, c *playing, in code.Inst) {
			v := c.values(2)
			c.lay(m.binary(in.Text, v[0], v[1]))
		},
		code.OpTruth: func(m *player, c *playing, in code.Inst) {
			v := c.value()
			if v.Kind != api.KBool || v.Type != "bool" {
				m.fault("operand", in.Text, "bool", typeOf(v))
			}
			c.lay(v)
		},
		code.OpConvert: func(m *player, c *playing, in code.Inst) {
			v, err := number.Convert(in.A, in.Text, c.value())
			m.right(err)
			c.lay(v)
		},
		code.OpSelect: func(m *player, c *playing, in code.Inst) { c.lay(m.selected(c.value(), in.Text, in.A == 1)) },
		code.OpExpression: func(m *player, c *playing, in code.Inst) {
			name, method, _ := strings.Cut(in.Text, " ")
			c.lay(m.expression(name, in.A == 1, method))
		},
		code.OpIndex: func(m *player, c *playing, in code.Inst) {
			v := c.values(2)
			c.lay(m.index(v[0], v[1]))
		},
		code.OpIndexTwo: func(m *player, c *playing, in code.Inst) {
			v := c.values(2)
			if v[0].Kind != api.KMap {
				m.fault("operand", "[]", typeOf(v[0]), typeOf(v[1]))
			}
			held, is, err := m.heap.Get(v[0], v[1])
			m.right(err)
			c.lay(held, truth(is))
		},
		code.OpSlice: func(m *player, c *playing, in code.Inst) { c.lay(m.slice(c, in)) },
		code.OpAssert: func(m *player, c *playing, in code.Inst) {
			v, err := assert.Must(m.table, c.value(), in.Text, in.A == 1)
			m.right(err)
			c.lay(v)
		},
		code.OpHolds: func(m *player, c *playing, in code.Inst) {
			v := c.value()
			switch {
			case in.A == 2:
				c.lay(v, truth(v.Kind == api.KNil))
			case assert.Holds(m.table, v, in.Text, in.A == 1):
				c.lay(v, truth(true))
			default:
				c.lay(api.Datum{}, truth(false))
			}
		},
	}
}

func makings() map[code.Op]doing {
	return map[code.Op]doing{
		code.OpList: func(m *player, c *playing, in code.Inst) {
			items := c.values(in.A)
			m.take(len(items))
			l, err := m.heap.List(items)
			m.right(err)
			c.lay(l)
		},
		code.OpMap: func(m *player, c *playing, in code.Inst) {
			v := c.values(2 * in.A)
			made := m.heap.Map()
			for i := 0; i < len(v); i += 2 {
				m.layKey(made, v[i], v[i+1])
			}
			c.lay(made)
		},
		code.OpStruct: func(m *player, c *playing, in code.Inst) { c.lay(m.structure(in.Text, c.values(in.A))) },
		code.OpObject: func(m *player, c *playing, in code.Inst) {
			v := c.value()
			if v.Kind != api.KStruct {
				m.fault("operand", "&", typeOf(v))
			}
			c.lay(m.object(v))
		},
		code.OpLiteral: func(m *player, c *playing, in code.Inst) {
			f := m.program.Funcs[in.A]
			if f.Around == -1 {
				c.lay(m.declared[in.A])
				return
			}
			m.take(1 + len(f.Taken))
			var taken []int
			for _, t := range f.Taken {
				if t < 0 {
					taken = append(taken, c.taken[-1-t])
				} else {
					taken = append(taken, m.slot(c, t))
				}
			}
			c.lay(m.function(m.callable(in.A, taken)))
		},
	}
}

func jumps() map[code.Op]doing {
	return map[code.Op]doing{
		code.OpJump: func(m *player, c *playing, in code.Inst) { c.next = in.A },
		code.OpBranch: func(m *player, c *playing, in code.Inst) {
			v := c.value()
			if v.Kind != api.KBool {
				m.fault("bool", typeOf(v))
			}
			if v.N == 0 {
				c.next = in.A
			}
		},
		code.OpAnd: func(m *player, c *playing, in code.Inst) { m.logic(c, in, "&&", 0) },
		code.OpOr:  func(m *player, c *playing, in code.Inst) { m.logic(c, in, "||", 1) },
		code.OpReturn: func(m *player, c *playing, in code.Inst) {
			c.answer, c.over = c.value(), true
		},
		code.OpTurn: func(m *player, c *playing, in code.Inst) { c.lay(m.turns(c.value())) },
		code.OpNext: func(m *player, c *playing, in code.Inst) {
			t := c.off().(turn)
			key, held, more := t.next()
			if !more {
				c.next = in.A
				return
			}
			c.lay(t, key, held)
		},
		code.OpDrop: func(m *player, c *playing, in code.Inst) {
			for range in.A {
				_ = c.off().(turn)
			}
		},
	}
}

// logic goes there with the value, if it is enough.
func (m *player) logic(c *playing, in code.Inst, sign string, enough int) {
	v := c.value()
	if v.Kind != api.KBool || v.Type != "bool" {
		m.fault("operand", sign, typeOf(v))
	}
	if v.N == enough {
		c.lay(v)
		c.next = in.A
	}
}

func callings() map[code.Op]doing {
	return map[code.Op]doing{
		code.OpCall: func(m *player, c *playing, in code.Inst) {
			args := c.values(in.A)
			c.lay(m.invoke(c.value(), args, in.At, nil))
		},
		code.OpBuilt: func(m *player, c *playing, in code.Inst) { c.lay(m.built(in.Text, c.values(in.A), c.by)) },
		code.OpDefer: func(m *player, c *playing, in code.Inst) {
			args := c.values(in.A)
			f := c.value()
			m.isFunc(f)
			c.laid = append(c.laid, laidDown{func() { m.invoke(f, args, in.At, c) }, append([]api.Datum{f}, args...)})
			m.event(4, in.At, "")
		},
		code.OpDeferBuilt: func(m *player, c *playing, in code.Inst) {
			args := c.values(in.A)
			c.laid = append(c.laid, laidDown{func() { m.built(in.Text, args, nil) }, args})
			m.event(4, in.At, "")
		},
	}
}

func (m *player) unary(op string, v api.Datum) api.Datum {
	switch op {
	case "*":
		if v.Kind != api.KPointer {
			m.fault("operand", "*", typeOf(v))
		}
		s, err := m.heap.Read(v)
		m.right(err)
		return s
	case "++", "--":
		if v.Kind != api.KInt {
			m.fault("operand", op, typeOf(v))
		}
		v.N += map[string]int{"++": 1, "--": -1}[op]
		return v
	}
	v, err := number.Unary(op, v)
	m.right(err)
	return v
}

func (m *player) binary(op string, a, b api.Datum) api.Datum {
	if op == "==" || op == "!=" {
		same, err := value.Equal(a, b)
		m.right(err)
		return truth(same == (op == "=="))
	}
	v, err := number.Binary(op, a, b)
	m.right(err)
	if v.Kind == api.KText {
		m.take(len(v.S))
	}
	return v
}

func (m *player) index(e, k api.Datum) api.Datum {
	switch {
	case e.Kind == api.KMap:
		v, _, err := m.heap.Get(e, k)
		m.right(err)
		return v
	case e.Kind == api.KList && k.Kind == api.KInt:
		v, err := m.heap.At(e, k.N)
		m.right(err)
		return v
	case e.Kind == api.KText && k.Kind == api.KInt:
		if k.N < 0 || k.N >= len(e.S) {
			m.fault("range", "index", k.N, "of", len(e.S))
		}
		return integer(int(e.S[k.N]))
	}
	m.fault("operand", "[]", typeOf(e), typeOf(k))
	return api.Datum{}
}

func (m *player) slice(c *playing, in code.Inst) api.Datum {
	given := map[int]api.Datum{}
	for i := in.A - 1; i >= 0; i-- {
		if in.B&(1<<i) == 0 {
			given[i] = c.value()
		}
	}
	e := c.value()
	length, most := e.Ref.Len, e.Ref.Cap
	if e.Kind == api.KText {
		length, most = len(e.S), len(e.S)
	}
	if e.Kind != api.KList && (e.Kind != api.KText || in.A == 3) {
		m.fault("operand", "[:]", typeOf(e))
	}
	bounds := []int{0, length, most}
	for i := range 3 {
		b, is := given[i]
		if is && b.Kind != api.KInt {
			m.fault("operand", "[:]", typeOf(e), typeOf(b))
		}
		if is {
			bounds[i] = b.N
		}
	}
	if from, to, last := bounds[0], bounds[1], bounds[2]; from < 0 || from > to || to > last || last > most {
		m.fault("range", "slice", strings.Trim(fmt.Sprint(bounds[:in.A]), "[]"), "of", most)
	}
	if e.Kind == api.KText {
		e.S = e.S[bounds[0]:bounds[1]]
		return e
	}
	l, err := m.heap.Slice(e, bounds[0], bounds[1], bounds[2])
	m.right(err)
	return l
}

// turns is a loop over a value.
func (m *player) turns(e api.Datum) turn {
	i := -1
	counted := func(n int, held func(i int) api.Datum) turn {
		return turn{func() (api.Datum, api.Datum, bool) {
			if i++; i >= n {
				return api.Datum{}, api.Datum{}, false
			}
			return integer(i), held(i), true
		}, []api.Datum{e}}
	}
	switch e.Kind {
	case api.KInt:
		return counted(e.N, func(int) api.Datum { return api.Datum{} })
	case api.KText:
		return counted(len(e.S), func(i int) api.Datum { return integer(int(e.S[i])) })
	case api.KList:
		return counted(e.Ref.Len, func(i int) api.Datum { return m.index(e, integer(i)) })
	case api.KMap:
		return m.entries(e)
	}
	m.fault("operand", "in", typeOf(e))
	return turn{}
}

func (m *player) entries(e api.Datum) turn {
	keys, values := m.heap.Keys(e)
	m.take(len(keys))
	i := -1
	return turn{func() (api.Datum, api.Datum, bool) {
		for i++; i < len(keys); i++ {
			if same, _ := value.Equal(keys[i], keys[i]); !same { // nobody finds it, so it can't have gone
				return keys[i], values[i], true
			}
			now, held := m.heap.Keys(e)
			for j, k := range now {
				if same, _ := value.Equal(k, keys[i]); same {
					return k, held[j], true
				}
			}
		}
		return api.Datum{}, api.Datum{}, false
	}, slices.Concat([]api.Datum{e}, keys, values)}
}
