package types

import (
	"maps"
	"slices"
	"strings"

	"guise/api"
)

func (m *maker) cycle(d api.Node) error {
	if d.Kind != api.NStruct && d.Kind != api.NProtocol {
		return nil
	}
	if slices.Contains(m.within(d.Text, maps.Clone(m.shapes)), d.Text) {
		return wrong(api.ErrCycle, d)
	}
	return nil
}

// within is what a name's NEmbeds lead to, each once: what is left is what was not come to yet. (The name itself is there, too, if
// they lead back to it.)
func (m *maker) within(name string, left map[string]shape) []string {
	var out []string
	for _, next := range m.embeds[name] {
		if _, open := left[next]; open {
			delete(left, next)
			out = append(append(out, next), m.within(next, left)...)
		}
	}
	return out
}

func (m *maker) sum(d api.Node) error {
	switch d.Kind {
	case api.NStruct:
		if m.room(d.Text, api.MaxSize) < 0 {
			return wrong(api.ErrType, d)
		}
	case api.NProtocol:
		return m.gather(d)
	}
	return nil
}

// room is what a type's zero leaves of some room, below 0 if that is not enough. It goes no further then: structs that embed structs
// may hold more than could be counted to the end.
func (m *maker) room(name string, left int) int {
	left--
	for _, f := range m.shapes[name].fields {
		if left < 0 {
			break
		}
		if f.embed == EmbedValue {
			left = m.room(f.name, left)
		} else {
			left--
		}
	}
	return left
}

// gather gives a protocol the methods of those that it embeds. It is all the same to the others, whether one of these was given its
// own already.
func (m *maker) gather(d api.Node) error {
	all := map[string]part{}
	var unlike []string
	for _, name := range append(m.within(d.Text, maps.Clone(m.shapes)), d.Text) {
		for what, p := range m.shapes[name].parts {
			if q, has := all[what]; has && q.count != p.count {
				unlike = append(unlike, what)
			}
			all[what] = p
		}
	}
	if len(unlike) > 0 {
		return &api.Wrong{Code: api.ErrTwice, At: d.At, Name: strings.Clone(slices.Min(unlike))}
	}
	if len(all) > api.MaxMethods {
		return wrong(api.ErrMany, d)
	}
	maps.Copy(m.shapes[d.Text].parts, all)
	return nil
}
