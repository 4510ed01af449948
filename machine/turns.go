package machine

// turn is a loop that goes over something: how far it is.
type turn interface {
	thing
	next() (key, held value, more bool)
}

// count goes over a number, or over a text's bytes.
type count struct {
	upTo, now int
}

type bytes struct {
	of  string
	now int
}

// elements goes over a list: how long it is was seen at the beginning.
type elements struct {
	of  list
	now int
}

// keys goes over the keys that a map had at the beginning, with what lay under them.
type keys struct {
	of   *store // nil: there were none
	were []entryThen
	now  int
}

type entryThen struct{ key, held value }

func (t *count) next() (key, held value, more bool) {
	if t.now >= t.upTo {
		return nil, nil, false
	}
	t.now++
	return intOf(t.now - 1), nothing{}, true
}

func (t *bytes) next() (key, held value, more bool) {
	if t.now >= len(t.of) {
		return nil, nil, false
	}
	t.now++
	return intOf(t.now - 1), intOf(int(t.of[t.now-1])), true
}

func (t *elements) next() (key, held value, more bool) {
	if t.now >= t.of.length {
		return nil, nil, false
	}
	t.now++
	return intOf(t.now - 1), t.of.elements()[t.now-1], true
}

// next: what is not equal to itself can't be found, so neither can it have gone, nor what lies under it have changed.
func (t *keys) next() (key, held value, more bool) {
	for t.now < len(t.were) {
		was := t.were[t.now]
		t.now++
		if same, _ := equal(was.key, was.key); !same {
			return was.key, was.held, true
		}
		if e := t.of.find(was.key); e != nil {
			return e.key, e.held, true
		}
	}
	return nil, nil, false
}

func (m *Machine) turn(c *call, in *inst) {
	switch x := c.value().(type) {
	case integer:
		c.push(&count{upTo: max(x.n, 0)})
	case text:
		c.push(&bytes{of: x.s})
	case list:
		c.push(&elements{of: x})
	case mapping:
		c.push(m.keysOf(x.store))
	default:
		panic(m.fault("operand", "in "+nameOf(x)))
	}
}

func (m *Machine) keysOf(s *store) *keys {
	t := &keys{of: s}
	if s == nil {
		return t
	}
	m.take(s.len())
	for _, e := range s.there() {
		t.were = append(t.were, entryThen{e.key, e.held})
	}
	return t
}

func (m *Machine) next(c *call, in *inst) {
	t := c.stack[len(c.stack)-1].(turn)
	key, held, more := t.next()
	if !more {
		c.off()
		c.next = in.A
		return
	}
	c.push(key)
	c.push(held)
}

func (m *Machine) drop(c *call, in *inst) { c.stack = c.stack[:len(c.stack)-in.A] }
