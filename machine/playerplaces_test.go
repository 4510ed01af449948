package machine_test

import (
	"slices"
	"strings"

	"guise/api"
	"guise/assert"
	"guise/code"
	"guise/types"
)

// spot is a place: what a variable, a pointer, an element or a key has, or a field of it, along a path of structs of these types.
type spot struct {
	kind  spotKind
	box   int
	of    api.Datum // the pointer, list or map
	key   api.Datum
	types []string
	path  []int
}

type spotKind int

const (
	atVariable spotKind = iota
	atPointer
	atElement
	atKey
)

func placings() map[code.Op]doing {
	return map[code.Op]doing{
		code.OpPlaceSlot:   func(m *player, c *playing, in code.Inst) { c.lay(spot{box: m.slot(c, in.A)}) },
		code.OpPlaceGlobal: func(m *player, c *playing, in code.Inst) { c.lay(spot{box: m.globals[in.A]}) },
		code.OpPlaceTaken:  func(m *player, c *playing, in code.Inst) { c.lay(spot{box: c.taken[in.A]}) },
		code.OpPlaceOf: func(m *player, c *playing, in code.Inst) {
			v := c.value()
			m.unary("*", v)
			c.lay(spot{kind: atPointer, of: v})
		},
		code.OpPlaceIndex: func(m *player, c *playing, in code.Inst) {
			v := c.values(2)
			c.lay(m.placeIndex(v[0], v[1]))
		},
		code.OpPlaceField: func(m *player, c *playing, in code.Inst) {
			if s, is := c.stack[len(c.stack)-1].(spot); is {
				c.off()
				c.lay(m.placeField(&s, m.fetch(s), in.Text))
			} else {
				c.lay(m.placeField(nil, c.value(), in.Text))
			}
		},
		code.OpFetch: func(m *player, c *playing, in code.Inst) {
			s := c.off().(spot)
			c.lay(s, m.fetch(s))
		},
		code.OpPut: func(m *player, c *playing, in code.Inst) {
			v := c.value()
			m.put(c.off().(spot), v)
		},
	}
}

func (m *player) placeIndex(e, k api.Datum) spot {
	switch {
	case e.Kind == api.KList && k.Kind == api.KInt:
		m.index(e, k)
		return spot{kind: atElement, of: e, key: k}
	case e.Kind == api.KMap:
		if e.Ref.Object == 0 {
			m.fault("nil", "map")
		}
		m.index(e, k)
		return spot{kind: atKey, of: e, key: k}
	}
	m.fault("operand", "[]", typeOf(e), typeOf(k))
	return spot{}
}

// placeField is the place of a field of a value, which stands somewhere, or nowhere (nil).
func (m *player) placeField(at *spot, v api.Datum, name string) spot {
	if v.Kind == api.KNil {
		m.fault("nil", "field", name)
	}
	found := m.table.Find(v.Type, v.Kind == api.KPointer, name)
	switch {
	case found.Kind == api.FoundTwice:
		m.fault("missing", name, "of", typeOf(v), "twice")
	case found.Kind == 0:
		m.fault("missing", name, "of", typeOf(v))
	case found.Kind != api.FoundField, v.Kind == api.KStruct && (at == nil || at.kind == atKey):
		m.fault("place")
	}
	var out spot
	if at != nil {
		out = *at
	}
	for _, field := range found.Path {
		if v.Kind == api.KPointer {
			out = spot{kind: atPointer, of: v}
		}
		v = m.opened(v, "field", name)
		out.types, out.path = append(slices.Clone(out.types), v.Type), append(slices.Clone(out.path), field)
		v = v.Items[field]
	}
	return out
}

// opened is a struct, or that to which a pointer leads; words say for what it is wanted.
func (m *player) opened(v api.Datum, words ...any) api.Datum {
	if v.Kind == api.KPointer && v.Ref.Object == 0 {
		m.fault("nil", words...)
	}
	if v.Kind == api.KPointer {
		return m.unary("*", v)
	}
	return v
}

// root is what stands where the path begins.
func (m *player) root(s spot) api.Datum {
	switch s.kind {
	case atPointer:
		return m.unary("*", s.of)
	case atElement, atKey:
		return m.index(s.of, s.key)
	}
	return m.open(s.box)
}

// along leads along the path in a value.
func (m *player) along(s spot, v *api.Datum) *api.Datum {
	for i, field := range s.path {
		if v.Kind != api.KStruct || v.Type != s.types[i] {
			m.fault("place")
		}
		v = &v.Items[field]
	}
	return v
}

func (m *player) fetch(s spot) api.Datum {
	v := m.root(s)
	return *m.along(s, &v)
}

// put lays something down: it may stand there, and what stands outermost then is not too large.
func (m *player) put(s spot, v api.Datum) {
	root := m.root(s)
	was := sizeOf(root)
	at := m.along(s, &root)
	if last := len(s.path) - 1; last >= 0 {
		m.mayStand(s.types[last], s.path[last], v)
	} else if s.kind == atPointer {
		_, err := assert.Must(m.table, v, s.of.Type, false)
		m.right(err)
	}
	*at = v
	size := sizeOf(root)
	if s.kind == atPointer {
		number := s.of.Ref.Object
		size += sizeOf(m.unary("*", api.Datum{Kind: api.KPointer, Type: m.objects[number], Ref: api.Ref{Object: number}})) - was
	}
	if size > api.MaxSize {
		m.fault("count", size)
	}
	var err error
	switch s.kind {
	case atVariable:
		m.heap.Set(s.box, root)
	case atPointer:
		err = m.heap.Write(s.of, root)
	case atElement:
		err = m.heap.Put(s.of, s.key.N, root)
	case atKey:
		m.layKey(s.of, s.key, root)
	}
	m.right(err)
}

func (m *player) layKey(e, k, v api.Datum) {
	_, has, err := m.heap.Get(e, k)
	m.right(err)
	if !has {
		m.take(2)
	}
	m.right(m.heap.Lay(e, k, v))
}

// mayStand: a value may be in a field, which may be an embedded one.
func (m *player) mayStand(name string, field int, v api.Datum) {
	fields, _ := m.table.Fields(name)
	embeds, _ := m.table.Embeds(name)
	if how := embeds[field]; how == types.EmbedValue || how == types.EmbedPointer || how == types.EmbedProtocol && v.Kind != api.KNil {
		_, err := assert.Must(m.table, v, fields[field], how == types.EmbedPointer)
		m.right(err)
	}
}

func (m *player) structure(names string, values []api.Datum) api.Datum {
	words := strings.Fields(names)
	s, _ := m.table.Zero(words[0])
	fields, _ := m.table.Fields(words[0])
	for i, word := range words[1:] {
		field := slices.Index(fields, word)
		m.mayStand(words[0], field, values[i])
		s.Items[field] = values[i]
	}
	if size := sizeOf(s); size > api.MaxSize {
		m.fault("count", size)
	}
	return s
}
