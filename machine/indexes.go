package machine

import (
	"strconv"
	"strings"
)

func (m *Machine) index(c *call, in *inst) {
	of, at := c.two()
	switch x := of.(type) {
	case list:
		c.push(x.elements()[m.number(of, at, x.length)])
		return
	case text:
		c.push(intOf(int(x.s[m.number(of, at, len(x.s))])))
		return
	case mapping:
		v, _ := m.lookUp(x, at)
		c.push(v)
		return
	}
	panic(m.noIndex(of, at))
}

func (m *Machine) indexTwo(c *call, in *inst) {
	of, at := c.two()
	x, is := of.(mapping)
	if !is {
		panic(m.noIndex(of, at))
	}
	v, there := m.lookUp(x, at)
	c.push(v)
	c.push(boolOf(there))
}

// lookUp is what lies under a key, and whether something does.
func (m *Machine) lookUp(x mapping, key value) (value, bool) {
	m.mayKey(key)
	if x.store != nil {
		if e := x.store.find(key); e != nil {
			return e.held, true
		}
	}
	return nothing{}, false
}

// mayKey: a value may be a key.
func (m *Machine) mayKey(v value) {
	if _, unfit := equal(v, v); unfit != "" {
		panic(m.fault("key", unfit))
	}
}

// layUnder lays something under a key that may be one.
func (m *Machine) layUnder(s *store, key, v value) {
	if e := s.find(key); e != nil {
		e.held = v
		return
	}
	m.take(2)
	s.add(key, v)
}

// noIndex: of what has no such elements there are none.
func (m *Machine) noIndex(of, at value) thrown {
	return m.fault("operand", "[] "+nameOf(of)+" "+nameOf(at))
}

// number is that of an element, of which there are so many.
func (m *Machine) number(of, at value, length int) int {
	i, is := at.(integer)
	if !is {
		panic(m.noIndex(of, at))
	}
	if i.n < 0 || i.n >= length {
		panic(m.fault("range", "index "+strconv.Itoa(i.n)+" of "+strconv.Itoa(length)))
	}
	return i.n
}

func (m *Machine) slice(c *call, in *inst) {
	given := c.values(bounds(in.Inst))
	of := c.value()
	switch x := of.(type) {
	case list:
		n := m.bounds(in, of, given, x.length, x.capacity)
		x.span = span{x.from + n[0], n[1] - n[0], n[2] - n[0]}
		c.push(x)
		return
	case text:
		if in.A == 2 {
			n := m.bounds(in, of, given, len(x.s), len(x.s))
			x.s = x.s[n[0]:n[1]]
			c.push(x)
			return
		}
	}
	panic(m.fault("operand", "[:] "+nameOf(of)))
}

// bounds are those of a piece of something that has a length, and may be reached up to most: those that were given, the others where it ends.
func (m *Machine) bounds(in *inst, of value, given []value, length, most int) [3]int {
	out := [3]int{0, length, most}
	for i := range in.A {
		if in.B>>i&1 == 1 {
			continue
		}
		n, is := given[0].(integer)
		if !is {
			panic(m.fault("operand", "[:] "+nameOf(of)+" "+nameOf(given[0])))
		}
		out[i], given = n.n, given[1:]
	}
	if out[0] < 0 || out[0] > out[1] || out[1] > out[2] || out[2] > most {
		panic(m.fault("range", boundsText(out[:in.A])+" of "+strconv.Itoa(most)))
	}
	return out
}

func boundsText(bounds []int) string {
	var out strings.Builder
	out.WriteString("slice")
	for _, n := range bounds {
		out.WriteString(" " + strconv.Itoa(n))
	}
	return out.String()
}
