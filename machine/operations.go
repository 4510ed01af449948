package machine

import (
	"strconv"

	"guise/api"
	"guise/number"
)

func (m *Machine) begin(c *call, in *inst) {
	m.step()
	c.hand = in.At
	m.event(toldStatement, in.At, "")
}

func (m *Machine) tick(*call, *inst) { m.step() }

func (m *Machine) lay(c *call, in *inst) { c.push(in.held) }

func (m *Machine) load(c *call, in *inst) {
	if v := c.given(in.A); v != nil {
		c.push(v.held)
	} else {
		c.push(nothing{})
	}
}

func (m *Machine) loadGlobal(c *call, in *inst) { c.push(m.globals[in.A].held) }

func (m *Machine) loadTaken(c *call, in *inst) { c.push(c.taken[in.A].held) }

func (m *Machine) fresh(c *call, in *inst) { c.give(in.A, m.newVariable(c.value())) }

func (m *Machine) store(c *call, in *inst) { m.slot(c, in.A).held = c.value() }

func (m *Machine) storeGlobal(c *call, in *inst) { m.globals[in.A].held = c.value() }

func (m *Machine) storeTaken(c *call, in *inst) { c.taken[in.A].held = c.value() }

func (m *Machine) pop(c *call, in *inst) { c.value() }

func (m *Machine) dup(c *call, in *inst) { c.push(c.stack[len(c.stack)-1]) }

func (m *Machine) unary(c *call, in *inst) {
	v := c.value()
	switch in.Text {
	case "*":
		c.push(m.follow(v).read())
	case "++":
		c.push(m.counting(in.Text, v, 1))
	case "--":
		c.push(m.counting(in.Text, v, -1))
	default:
		d, err := number.Unary(in.Text, datumOf(v))
		if err != nil {
			panic(m.faultOf(err))
		}
		c.push(valueOf(d))
	}
}

// follow is a pointer that leads to something.
func (m *Machine) follow(v value) pointer {
	p, is := v.(pointer)
	if !is {
		panic(m.fault("operand", "* "+nameOf(v)))
	}
	if p.object == nil {
		panic(m.fault("nil", "pointer"))
	}
	return p
}

// counting is an int with so much more.
func (m *Machine) counting(sign string, v value, more int) value {
	n, is := v.(integer)
	if !is {
		panic(m.fault("operand", sign+" "+nameOf(v)))
	}
	n.n += more
	return n
}

func (m *Machine) binary(c *call, in *inst) {
	w, v := c.two()
	if in.Text == "==" || in.Text == "!=" {
		c.push(boolOf(m.equal(w, v) == (in.Text == "==")))
		return
	}
	d, err := number.Binary(in.Text, datumOf(w), datumOf(v))
	if err != nil {
		panic(m.faultOf(err))
	}
	if d.Kind == api.KText {
		m.take(len(d.S))
	}
	c.push(valueOf(d))
}

func (m *Machine) equal(a, b value) bool {
	same, unfit := equal(a, b)
	if unfit != "" {
		panic(m.fault("compare", unfit))
	}
	return same
}

func (m *Machine) truth(c *call, in *inst) { c.push(boolOf(m.truly(in.Text+" bool", c.value()))) }

// truly is what a part of && or || says, which must be of the type bool itself; more says which part it is.
func (m *Machine) truly(more string, v value) bool {
	b, is := v.(boolean)
	if !is || b.name != "bool" {
		panic(m.fault("operand", more+" "+nameOf(v)))
	}
	return b.yes
}

func (m *Machine) convert(c *call, in *inst) {
	v := c.value()
	if in.A >= api.KList && v.kind() == in.A {
		c.push(renamed(v, in.Text))
		return
	}
	d, err := number.Convert(in.A, in.Text, datumOf(v))
	if err != nil {
		panic(m.faultOf(err))
	}
	c.push(valueOf(d))
}

func (m *Machine) list(c *call, in *inst) {
	m.take(in.A)
	c.push(m.newList("list", c.values(in.A), in.A))
}

// mapping: the map is there, also if one of its pairs has a fault.
func (m *Machine) mapping(c *call, in *inst) {
	pairs := c.values(2 * in.A)
	x := m.newMap()
	for i := 0; i < len(pairs); i += 2 {
		m.mayKey(pairs[i])
		m.layUnder(x.store, pairs[i], pairs[i+1])
	}
	c.push(x)
}

// structure: all parts may stand there; only then it is seen how large they are together.
func (m *Machine) structure(c *call, in *inst) {
	name := in.words[0]
	items := append([]value(nil), m.shapes[name].zero.items...)
	for i, v := range c.values(in.A) {
		m.mayStand(name, in.fields[i], v)
		items[in.fields[i]] = v
	}
	s := newStructure(name, items)
	m.sized(s)
	c.push(s)
}

// sized: what is laid down is no larger than a struct may be.
func (m *Machine) sized(v value) {
	if size := sizeOf(v); size > api.MaxSize {
		panic(m.fault("count", strconv.Itoa(size)))
	}
}

func (m *Machine) object(c *call, in *inst) {
	v := c.value()
	s, is := v.(*structure)
	if !is {
		panic(m.fault("operand", "& "+nameOf(v)))
	}
	c.push(m.newObject(s))
}

// literal: a declared function is there from the beginning, a literal is made anew with what it takes.
func (m *Machine) literal(c *call, in *inst) {
	r := m.routines[in.A]
	if r.isDeclared() {
		c.push(funcOf(r))
		return
	}
	m.take(1 + len(r.takes))
	f := made(m, &closure{routine: r})
	for _, t := range r.takes {
		if t < 0 {
			f.taken = append(f.taken, c.taken[-1-t])
		} else {
			f.taken = append(f.taken, m.slot(c, t))
		}
	}
	c.push(funcOf(f))
}

func (m *Machine) jump(c *call, in *inst) { c.next = in.A }

func (m *Machine) branch(c *call, in *inst) {
	v := c.value()
	b, is := v.(boolean)
	if !is {
		panic(m.fault("bool", nameOf(v)))
	}
	if !b.yes {
		c.next = in.A
	}
}

func (m *Machine) and(c *call, in *inst) { m.enough(c, in, "&&", false) }

func (m *Machine) or(c *call, in *inst) { m.enough(c, in, "||", true) }

// enough goes there with the value, if it is enough to know it; else it is taken off.
func (m *Machine) enough(c *call, in *inst, sign string, enough bool) {
	if m.truly(sign, c.value()) == enough {
		c.push(boolOf(enough))
		c.next = in.A
	}
}
