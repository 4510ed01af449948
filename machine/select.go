package machine

import (
	"guise/api"
	"guise/assert"
	"guise/types"
)

// question is what is asked of a type, or of a pointer to it.
type question struct {
	name    string
	pointer bool
	what    string
}

func (p *program) find(v value, what string) api.Found {
	return p.cache.Find(v.named(), isPointer(v), what)
}

// holds is chapter 8's answer: of a protocol the cache has it.
func (p *program) holds(v value, want string, star bool) bool {
	if _, protocol := p.protocols[want]; protocol && !star {
		return !isNil(v) && p.cache.Meets(v.named(), isPointer(v), want)
	}
	return !isNil(v) && v.named() == want && isPointer(v) == star
}

// must: the value holds that.
func (m *Machine) must(v value, want string, star bool) {
	if !m.holds(v, want, star) {
		_, err := assert.Must(m.table, headOf(v), want, star)
		panic(m.faultOf(err))
	}
}

func (m *Machine) assert(c *call, in *inst) {
	v := c.value()
	m.must(v, in.Text, in.A == 1)
	c.push(v)
}

func (m *Machine) holding(c *call, in *inst) {
	v := c.value()
	holds := isNil(v)
	if in.A != 2 {
		holds = m.holds(v, in.Text, in.A == 1)
		if !holds {
			v = nothing{}
		}
	}
	c.push(v)
	c.push(boolOf(holds))
}

// mayStand: a value may be laid into a field of a struct type.
func (m *Machine) mayStand(name string, field int, v value) {
	s := m.shapes[name]
	switch s.embeds[field] {
	case types.EmbedValue:
		m.must(v, s.fields[field], false)
	case types.EmbedPointer:
		m.must(v, s.fields[field], true)
	case types.EmbedProtocol:
		if !isNil(v) {
			m.must(v, s.fields[field], false)
		}
	}
}

// there is what a name is of a value: what is not there is a fault.
func (m *Machine) there(v value, name string) api.Found {
	if isNil(v) {
		panic(m.fault("nil", "field "+name))
	}
	found := m.find(v, name)
	if found.Kind == 0 || found.Kind == api.FoundTwice {
		panic(m.missing(name, nameOf(v), found))
	}
	return found
}

func (m *Machine) missing(name, of string, found api.Found) thrown {
	more := name + " of " + of
	if found.Kind == api.FoundTwice {
		more += " twice"
	}
	return m.fault("missing", more)
}

// pointed is what a pointer leads to; more says for what it was asked.
func (m *Machine) pointed(p pointer, more string) *structure {
	if p.object == nil {
		panic(m.fault("nil", more))
	}
	return p.read()
}

// opened is the struct that a value is, or to which it leads.
func (m *Machine) opened(v value, more string) *structure {
	if p, is := v.(pointer); is {
		return m.pointed(p, more)
	}
	return v.(*structure)
}

// along is what stands at the end of a path of fields, and the last pointer on the way, with the fields that lie behind it.
func (m *Machine) along(v value, path []int, more string) (value, pointer, []int) {
	var base pointer
	from := 0
	for i, field := range path {
		s := m.opened(v, more)
		if p, is := v.(pointer); is {
			base, from = p, i
		}
		v = s.items[field]
	}
	return v, base, path[from:]
}

// selects lays a field's value down, or a method that is bound.
func (m *Machine) selects(c *call, in *inst) {
	v := c.value()
	found := m.there(v, in.Text)
	if found.Kind == api.FoundField {
		field, _, _ := m.along(v, found.Path, "field "+in.Text)
		c.push(field)
		return
	}
	f := m.bind(v, in.Text, found)
	if in.A == 0 {
		m.take(1)
	}
	m.things++
	c.push(funcOf(f))
}

// bind binds the method that was found of a value. One that an embedded protocol gives is the one of the value that stands there; these may lead to one another for good, so that they are counted.
func (m *Machine) bind(e value, name string, found api.Found) callee {
	v, more := e, "method "+name
	for gone := 0; found.Kind == api.FoundProtocol; gone++ {
		if gone == api.MaxNest {
			panic(m.missing(name, nameOf(e), found))
		}
		v, _, _ = m.along(v, found.Path, more)
		if isNil(v) {
			panic(m.fault("nil", more))
		}
		found = m.find(v, name)
	}
	v, base, rest := m.along(v, found.Path, more)
	if s, is := v.(*structure); is && found.Pointer {
		v = base.part(s.name, rest)
	}
	if p, is := v.(pointer); is && !found.Pointer {
		v = m.pointed(p, more)
	}
	if found.Type == "fault" {
		return &faultError{receiver: v.(pointer)}
	}
	return &bound{routine: m.methods[found.Type+"."+name], receiver: v}
}

// express lays a method expression down.
func (m *Machine) express(c *call, in *inst) {
	q := question{in.words[0], in.A == 1, in.words[1]}
	found := m.cache.Find(q.name, q.pointer, q.what)
	if found.Kind != api.FoundMethod && found.Kind != api.FoundProtocol {
		name := q.name
		if q.pointer {
			name = "*" + name
		}
		panic(m.missing(q.what, name, found))
	}
	m.take(1)
	c.push(funcOf(made(m, &expression{question: q, found: found})))
}
