package machine

import "guise/api"

// What stands ahead of a thing says what it is: a value's kind, and declared, if its type is not the kind's own.
const declared = 16

const (
	tagCell = iota + 32
	tagElement
	tagUnderKey
	tagTarget
	tagMember
	tagCount
	tagBytes
	tagElements
	tagKeys
	tagCall
	tagBuilt
)

// Which callee a func has.
const (
	noCallee = iota
	tagRoutine
	tagClosure
	tagBound
	tagExpression
	tagFaultError
)

// ownName is the name of the type that a kind is.
func ownName(kind int) string {
	switch kind {
	case api.KBool:
		return "bool"
	case api.KInt:
		return "int"
	case api.KFloat:
		return "float"
	case api.KText:
		return "text"
	case api.KList:
		return "list"
	case api.KMap:
		return "map"
	case api.KFunc:
		return "func"
	}
	return ""
}

// head writes of which type a value is.
func head(p *pen, v value) {
	if v.named() == ownName(v.kind()) {
		p.bytes(byte(v.kind()))
		return
	}
	p.bytes(byte(v.kind()) | declared)
	p.text(v.named())
}

func (v nothing) write(p *pen) { head(p, v) }

func (v boolean) write(p *pen) {
	head(p, v)
	p.flag(v.yes)
}

func (v integer) write(p *pen) {
	head(p, v)
	p.signed(v.n)
}

func (v float) write(p *pen) {
	head(p, v)
	p.number(int(v.bits))
}

func (v text) write(p *pen) {
	head(p, v)
	p.text(v.s)
}

func (v list) write(p *pen) {
	head(p, v)
	if v.array == nil {
		p.noNode()
		return
	}
	p.node(v.array)
	p.number(v.from)
	p.number(v.length)
	p.number(v.capacity)
}

func (v mapping) write(p *pen) {
	head(p, v)
	p.store(v.store)
}

func (p *pen) store(s *store) {
	if s == nil {
		p.noNode()
		return
	}
	p.node(s)
}

func (v function) write(p *pen) {
	head(p, v)
	switch f := v.callee.(type) {
	case *routine:
		p.bytes(tagRoutine)
		p.number(f.number)
	case *closure:
		p.bytes(tagClosure)
		p.node(f)
	case *bound:
		p.bytes(tagBound)
		p.node(f)
	case *expression:
		p.bytes(tagExpression)
		p.node(f)
	case *faultError:
		p.bytes(tagFaultError)
		p.node(f)
	default:
		p.bytes(noCallee)
	}
}

func (v *structure) write(p *pen) {
	head(p, v)
	for _, item := range v.items { // how many there are the type tells
		item.write(p)
	}
}

func (v pointer) write(p *pen) {
	head(p, v)
	if v.object == nil {
		p.noNode()
		return
	}
	p.node(v.object)
	p.numbers(v.path)
}

func (n *variable) write(p *pen) { n.held.write(p) }

func (n *object) write(p *pen) { n.held.write(p) }

func (n *array) write(p *pen) { p.values(n.elements) }

func (n *store) write(p *pen) {
	p.number(n.len())
	for _, e := range n.entries {
		if !e.gone {
			e.key.write(p)
			e.held.write(p)
		}
	}
}

func (n *closure) write(p *pen) {
	p.number(n.number)
	for _, v := range n.taken {
		p.node(v)
	}
}

func (n *bound) write(p *pen) {
	p.number(n.number)
	n.receiver.write(p)
}

func (n *expression) write(p *pen) {
	p.text(n.name)
	p.flag(n.pointer)
	p.text(n.what)
}

func (n *faultError) write(p *pen) { n.receiver.write(p) }

func (x cell) write(p *pen) {
	p.bytes(tagCell)
	p.node(x.of)
}

func (x element) write(p *pen) {
	p.bytes(tagElement)
	p.node(x.of)
	p.number(x.at)
}

func (x underKey) write(p *pen) {
	p.bytes(tagUnderKey)
	p.node(x.of)
	x.key.write(p)
}

func (x target) write(p *pen) {
	p.bytes(tagTarget)
	x.pointer.write(p)
}

func (x member) write(p *pen) {
	p.bytes(tagMember)
	x.root.write(p)
	p.number(len(x.path))
	for i, field := range x.path {
		p.text(x.names[i])
		p.number(field)
	}
}

func (x *count) write(p *pen) {
	p.bytes(tagCount)
	p.number(x.upTo)
	p.number(x.now)
}

func (x *bytes) write(p *pen) {
	p.bytes(tagBytes)
	p.text(x.of)
	p.number(x.now)
}

func (x *elements) write(p *pen) {
	p.bytes(tagElements)
	x.of.write(p)
	p.number(x.now)
}

func (x *keys) write(p *pen) {
	p.bytes(tagKeys)
	p.store(x.of)
	p.number(x.now)
	p.number(len(x.were))
	for _, e := range x.were {
		e.key.write(p)
		e.held.write(p)
	}
}

func (l laidCall) write(p *pen) {
	p.bytes(tagCall)
	p.number(l.at)
	l.called.write(p)
	p.values(l.args)
}

func (l laidBuilt) write(p *pen) {
	p.bytes(tagBuilt)
	p.text(l.name)
	p.values(l.args)
}

func (c *call) write(p *pen) {
	p.number(c.number)
	p.number(c.from.at)
	p.text(c.from.title)
	p.number(c.next)
	p.number(c.hand)
	p.flag(c.ending)
	p.flag(c.panicking)
	c.answer.write(p)
	c.thrown.write(p)
	c.writeSlots(p)
	for _, v := range c.taken {
		p.node(v)
	}
	p.number(len(c.stack))
	for _, x := range c.stack {
		x.write(p)
	}
	p.number(len(c.laid))
	for _, l := range c.laid {
		l.write(p)
	}
}

// writeSlots writes those that were given a variable: there may be many that were not.
func (c *call) writeSlots(p *pen) {
	given := 0
	for _, v := range c.slots {
		if v != nil {
			given++
		}
	}
	p.number(given)
	for i, v := range c.slots {
		if v != nil {
			p.number(i)
			p.node(v)
		}
	}
}
