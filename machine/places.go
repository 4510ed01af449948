package machine

import "guise/api"

// place is where something can be laid down.
type place interface {
	thing
	read(m *Machine) value
	lay(m *Machine, v value)
}

// cell is a variable.
type cell struct{ of *variable }

func (p cell) read(*Machine) value { return p.of.held }

func (p cell) lay(m *Machine, v value) {
	m.sized(v)
	p.of.held = v
}

// element is one of an array.
type element struct {
	of *array
	at int
}

func (p element) read(*Machine) value { return p.of.elements[p.at] }

func (p element) lay(m *Machine, v value) {
	m.sized(v)
	p.of.elements[p.at] = v
}

// underKey is what lies under a map's key.
type underKey struct {
	of  *store
	key value
}

func (p underKey) read(*Machine) value {
	if e := p.of.find(p.key); e != nil {
		return e.held
	}
	return nothing{}
}

func (p underKey) lay(m *Machine, v value) { m.layUnder(p.of, p.key, v) }

// target is what a pointer leads to.
type target struct{ pointer }

func (p target) read(*Machine) value { return p.pointer.read() }

// lay asks for the size of all that the object would hold then.
func (p target) lay(m *Machine, v value) {
	m.must(v, p.name, false)
	whole := p.object.held.with(p.path, v)
	m.sized(whole)
	p.object.held = whole
}

// member is a field of the struct that stands at a place, along a path of fields of structs of these types.
type member struct {
	root  place
	names []string
	path  []int
}

func (p member) read(m *Machine) value {
	v := p.root.read(m)
	for i, field := range p.path {
		s, is := v.(*structure)
		if !is || s.name != p.names[i] {
			panic(m.fault("place", ""))
		}
		v = s.items[field]
	}
	return v
}

func (p member) lay(m *Machine, v value) {
	p.read(m) // what stood around the field may be something else by now
	last := len(p.path) - 1
	m.mayStand(p.names[last], p.path[last], v)
	p.root.lay(m, p.root.read(m).(*structure).with(p.path, v))
}

func (m *Machine) placeSlot(c *call, in *inst) { c.push(cell{m.slot(c, in.A)}) }

func (m *Machine) placeGlobal(c *call, in *inst) { c.push(cell{m.globals[in.A]}) }

func (m *Machine) placeTaken(c *call, in *inst) { c.push(cell{c.taken[in.A]}) }

func (m *Machine) placeOf(c *call, in *inst) { c.push(target{m.follow(c.value())}) }

func (m *Machine) placeIndex(c *call, in *inst) {
	of, at := c.two()
	switch x := of.(type) {
	case list:
		c.push(element{x.array, x.from + m.number(of, at, x.length)})
		return
	case mapping:
		if x.store == nil {
			panic(m.fault("nil", "map"))
		}
		m.mayKey(at)
		c.push(underKey{x.store, at})
		return
	}
	panic(m.noIndex(of, at))
}

func (m *Machine) placeField(c *call, in *inst) {
	switch x := c.off().(type) {
	case place:
		c.push(m.fieldAt(x, x.read(m), in.Text))
	case value:
		c.push(m.fieldAt(nil, x, in.Text))
	}
}

// fieldAt is the place of a field of a value, that stands at a place, or at none (nil).
func (m *Machine) fieldAt(at place, v value, name string) place {
	found := m.there(v, name)
	_, keyed := at.(underKey)
	if found.Kind != api.FoundField || !isPointer(v) && (at == nil || keyed) {
		panic(m.fault("place", ""))
	}
	out := rooted(at)
	for _, field := range found.Path {
		s := m.opened(v, "field "+name)
		if p, is := v.(pointer); is {
			out = member{root: target{p}}
		}
		out.names = append(out.names, s.name)
		out.path = append(out.path, field)
		v = s.items[field]
	}
	return out
}

// rooted is a place as the beginning of a path.
func rooted(at place) member {
	if p, is := at.(member); is {
		return p
	}
	return member{root: at}
}

func (m *Machine) fetch(c *call, in *inst) { c.push(c.stack[len(c.stack)-1].(place).read(m)) }

func (m *Machine) put(c *call, in *inst) {
	v := c.value()
	c.off().(place).lay(m, v)
}
