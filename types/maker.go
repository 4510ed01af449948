package types

import (
	"slices"
	"strings"

	"guise/api"
)

// maker makes the shapes of a program, group by group: each group needs what the one ahead of it found of all declarations.
type maker struct {
	shapes   map[string]shape
	declared int                 // types and protocols of the program so far
	embeds   map[string][]string // what NEmbeds lead to: those of a struct type to struct types, of a protocol to protocols
	methods  map[string]int      // how many a declared type has so far
}

// wrong tells a node. What is told is a copy, since nothing of what is handed in is kept.
func wrong(code api.Errno, n api.Node) error {
	return &api.Wrong{Code: code, At: n.At, Name: strings.Clone(n.Text)}
}

func (m *maker) name(d api.Node) error {
	if d.Kind != api.NType && d.Kind != api.NStruct && d.Kind != api.NProtocol {
		return nil
	}
	if _, has := m.shapes[d.Text]; has {
		return wrong(api.ErrTwice, d)
	}
	if m.declared == api.MaxTypes {
		return wrong(api.ErrMany, d)
	}
	if d.Kind == api.NType && !m.shapes[d.Kids[0].Text].basic() {
		return wrong(api.ErrType, d.Kids[0])
	}
	m.shapes[strings.Clone(d.Text)] = m.begun(d)
	m.declared++
	return nil
}

// begun is a shape as far as its declaration tells it by itself. The fields' names are part of it: a method may stand ahead of its
// type, and is held against them.
func (m *maker) begun(d api.Node) shape {
	s := shape{parts: map[string]part{}}
	switch d.Kind {
	case api.NType:
		s.kind = m.shapes[d.Kids[0].Text].kind
	case api.NStruct:
		s.kind = api.KStruct
		for i, f := range d.Kids {
			name := strings.Clone(f.Text)
			s.fields = append(s.fields, field{name: name})
			s.parts[name] = part{field: true, number: i}
		}
	}
	return s
}

func (m *maker) parts(d api.Node) error {
	switch d.Kind {
	case api.NStruct:
		return m.structParts(d)
	case api.NProtocol:
		return m.protocolParts(d)
	case api.NMethodDecl:
		return m.method(d)
	}
	return nil
}

func (m *maker) structParts(d api.Node) error {
	s := m.shapes[d.Text]
	for i, f := range d.Kids {
		if slices.ContainsFunc(d.Kids[:i], func(g api.Node) bool { return g.Text == f.Text }) {
			return wrong(api.ErrTwice, f)
		}
		embed, err := m.embed(f)
		if err != nil {
			return err
		}
		s.fields[i].embed = embed
		if embed == EmbedValue {
			m.embeds[d.Text] = append(m.embeds[d.Text], f.Text)
		}
	}
	return nil
}

// embed is how a field stands in its struct type.
func (m *maker) embed(f api.Node) (int, error) {
	s, known := m.shapes[f.Text]
	switch {
	case f.Kind == api.NField:
		return Plain, nil
	case !known:
		return 0, wrong(api.ErrUnknown, f)
	case s.kind == api.KStruct && f.Kind == api.NEmbedPointer:
		return EmbedPointer, nil
	case s.kind == api.KStruct:
		return EmbedValue, nil
	case s.kind == api.KNil && f.Kind == api.NEmbed:
		return EmbedProtocol, nil
	}
	return 0, wrong(api.ErrType, f)
}

func (m *maker) protocolParts(d api.Node) error {
	s := m.shapes[d.Text]
	for _, p := range d.Kids {
		if p.Kind == api.NEmbed {
			embedded, known := m.shapes[p.Text]
			if !known {
				return wrong(api.ErrUnknown, p)
			}
			if embedded.kind != api.KNil {
				return wrong(api.ErrType, p)
			}
			m.embeds[d.Text] = append(m.embeds[d.Text], p.Text)
			continue
		}
		if _, has := s.parts[p.Text]; has {
			return wrong(api.ErrTwice, p)
		}
		s.parts[strings.Clone(p.Text)] = part{count: p.N}
	}
	return nil
}

func (m *maker) method(d api.Node) error {
	receiver, params := d.Kids[0].Kids[0], d.Kids[1]
	pointer := receiver.Kind == api.NPointer
	if pointer {
		receiver = receiver.Kids[0]
	}
	s := m.shapes[receiver.Text]
	if s.given || s.kind == api.KNil || pointer && s.kind != api.KStruct {
		return wrong(api.ErrReceiver, receiver)
	}
	if _, has := s.parts[d.Text]; has {
		return wrong(api.ErrTwice, d)
	}
	if m.methods[receiver.Text] == api.MaxMethods {
		return wrong(api.ErrMany, d)
	}
	m.methods[receiver.Text]++
	s.parts[strings.Clone(d.Text)] = part{pointer: pointer, count: len(params.Kids)}
	return nil
}
