package machine_test

import (
	"slices"
	"strings"

	"guise/api"
	"guise/assert"
)

// selected is e.f.
func (m *player) selected(e api.Datum, name string, atOnce bool) api.Datum {
	found := m.table.Find(e.Type, e.Kind == api.KPointer, name)
	if e.Kind != api.KNil && (found.Kind == api.FoundMethod || found.Kind == api.FoundProtocol) {
		c := m.bound(e, name)
		if !atOnce {
			m.take(1)
		}
		return m.function(c)
	}
	_, err := assert.Select(m.table, e, name)
	m.right(err)
	for _, field := range found.Path {
		e = m.opened(e, "field", name).Items[field]
	}
	return e
}

// bound is a method of a value: through embedded protocols it is that of the value that stands there.
func (m *player) bound(e api.Datum, name string) callable {
	first := typeOf(e)
	for gone := 0; ; gone++ {
		found := m.table.Find(e.Type, e.Kind == api.KPointer, name)
		if found.Kind == api.FoundMethod {
			return m.method(m.receiver(e, name, found), found.Type+"."+name)
		}
		if gone == api.MaxNest {
			m.fault("missing", name, "of", first)
		}
		for _, field := range found.Path {
			e = m.opened(e, "method", name).Items[field]
		}
		if e.Kind == api.KNil {
			m.fault("nil", "method", name)
		}
	}
}

// receiver is the value, or the pointer, to which a method's path leads.
func (m *player) receiver(e api.Datum, name string, found api.Found) api.Datum {
	for _, field := range found.Path {
		item := m.opened(e, "method", name).Items[field]
		if e.Kind == api.KPointer && item.Kind == api.KStruct {
			part, err := m.heap.Part(e, field, item.Type)
			m.right(err)
			item = part
		}
		e = item
	}
	if found.Pointer {
		return e
	}
	return m.opened(e, "method", name)
}

func (m *player) method(receiver api.Datum, title string) callable {
	if title == "fault.Error" {
		return callable{title: title, bound: []api.Datum{receiver}, run: func([]api.Datum, *playing) api.Datum { return m.faultText(receiver) }}
	}
	for i, f := range m.program.Funcs {
		if i > 0 && f.Name == title {
			c := m.callable(i, nil)
			return callable{title: title, wants: c.wants - 1, bound: []api.Datum{receiver}, run: func(args []api.Datum, by *playing) api.Datum {
				return c.run(slices.Concat([]api.Datum{receiver}, args), by)
			}}
		}
	}
	panic("the code has no " + title)
}

// faultText is what Error answers.
func (m *player) faultText(p api.Datum) api.Datum {
	s := m.opened(p, "field", "word")
	words := []string{m.mustPrint(s.Items[0])}
	if more := m.mustPrint(s.Items[1]); s.Items[1].Kind != api.KNil && more != "" {
		words = append(words, more)
	}
	return m.telling(strings.Join(words, " "))
}

// telling is a text that takes room.
func (m *player) telling(s string) api.Datum {
	if len(s) > api.MaxText {
		m.fault("count", api.MaxText+1)
	}
	m.take(len(s))
	return text(s)
}

func (m *player) mustPrint(v api.Datum) string {
	s := m.printed(v)
	if len(s) > api.MaxText {
		m.fault("count", api.MaxText+1)
	}
	return s
}

// expression is T.m, or (*T).m.
func (m *player) expression(name string, pointer bool, method string) api.Datum {
	of := name
	if pointer {
		of = "*" + name
	}
	found := m.table.Find(name, pointer, method)
	switch found.Kind {
	case api.FoundTwice:
		m.fault("missing", method, "of", of, "twice")
	case 0, api.FoundField:
		m.fault("missing", method, "of", of)
	}
	m.take(1)
	return m.function(callable{title: found.Type + "." + method, wants: found.Count + 1, run: func(args []api.Datum, by *playing) api.Datum {
		e, err := assert.Must(m.table, args[0], name, pointer)
		m.right(err)
		return m.bound(e, method).run(args[1:], by)
	}})
}
