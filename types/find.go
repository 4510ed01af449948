package types

import (
	"iter"
	"slices"
	"strings"

	"guise/api"
)

// entry is a type or a protocol at a level, and the first way to it.
type entry struct {
	name    string
	path    []int
	pointer bool // an embedded one is on the way
	doubled bool
}

// levels are the entries of a type, the type itself first, as far as they are asked for.
func (t *Table) levels(name string) iter.Seq[[]entry] {
	return func(yield func([]entry) bool) {
		level := []entry{{name: name}}
		ahead := level
		for len(level) > 0 && yield(level) {
			level = t.below(level, ahead)
			ahead = append(ahead, level...)
		}
	}
}

// below is the level behind one: what its embedded fields lead to, but for the entries ahead of it.
func (t *Table) below(level, ahead []entry) []entry {
	var order []string
	next := map[string]entry{}
	for _, e := range level {
		for number, f := range t.shapes[e.name].fields {
			if f.embed == Plain {
				continue
			}
			to, met := next[f.name]
			if met {
				to.doubled = true
			} else {
				order = append(order, f.name)
				to = e.through(f, number)
			}
			next[f.name] = to
		}
	}
	for _, e := range ahead {
		delete(next, e.name)
	}
	var out []entry
	for _, name := range order {
		if e, left := next[name]; left {
			out = append(out, e)
		}
	}
	return out
}

// through is the entry to which a field of this one leads.
func (e entry) through(f field, number int) entry {
	return entry{
		name:    f.name,
		path:    append(slices.Clone(e.path), number),
		pointer: e.pointer || f.embed == EmbedPointer,
		doubled: e.doubled,
	}
}

// isType: there is such a type; a pointer leads to a struct type alone.
func (t *Table) isType(name string, pointer bool) bool {
	kind := t.shapes[name].kind
	return kind == api.KStruct || kind != api.KNil && !pointer
}

// Find is what a name is of a type, or of a pointer to it.
func (t *Table) Find(name string, pointer bool, what string) api.Found {
	if !t.isType(name, pointer) {
		return api.Found{}
	}
	return t.find(t.levels(name), pointer, what)
}

func (t *Table) find(levels iter.Seq[[]entry], pointer bool, what string) api.Found {
	for level := range levels {
		var has []entry
		for _, e := range level {
			if _, is := t.shapes[e.name].parts[what]; is {
				has = append(has, e)
			}
		}
		switch {
		case len(has) > 1 || len(has) == 1 && has[0].doubled:
			return api.Found{Kind: api.FoundTwice}
		case len(has) == 1:
			return t.found(has[0], pointer, what)
		}
	}
	return api.Found{}
}

// found is what the one entry that has a name says of it.
func (t *Table) found(e entry, pointer bool, what string) api.Found {
	s := t.shapes[e.name]
	p := s.parts[what]
	switch {
	case p.field:
		return api.Found{Kind: api.FoundField, Path: append(slices.Clone(e.path), p.number)}
	case s.kind == api.KNil:
		return api.Found{Kind: api.FoundProtocol, Path: slices.Clone(e.path), Type: strings.Clone(e.name), Count: p.count}
	case p.pointer && !pointer && !e.pointer:
		return api.Found{}
	}
	return api.Found{Kind: api.FoundMethod, Path: slices.Clone(e.path), Type: strings.Clone(e.name), Pointer: p.pointer, Count: p.count}
}

func isMethod(f api.Found) bool { return f.Kind == api.FoundMethod || f.Kind == api.FoundProtocol }

// Methods is the methods of a type, or of a pointer to it; Wants those of a protocol; rising.
func (t *Table) Methods(name string, pointer bool) []api.Method {
	if !t.isType(name, pointer) {
		return nil
	}
	levels := slices.Collect(t.levels(name))
	names := map[string]struct{}{}
	for _, level := range levels {
		for _, e := range level {
			for what := range t.shapes[e.name].parts {
				names[what] = struct{}{}
			}
		}
	}
	var out []api.Method
	for what := range names {
		if f := t.find(slices.Values(levels), pointer, what); isMethod(f) {
			out = append(out, api.Method{Name: strings.Clone(what), Count: f.Count})
		}
	}
	sortMethods(out)
	return out
}

func sortMethods(list []api.Method) {
	slices.SortFunc(list, func(a, b api.Method) int { return strings.Compare(a.Name, b.Name) })
}

func (t *Table) Wants(protocol string) ([]api.Method, bool) {
	s, known := t.shapes[protocol]
	if !known || s.kind != api.KNil {
		return nil, false
	}
	var out []api.Method
	for what, p := range s.parts {
		out = append(out, api.Method{Name: strings.Clone(what), Count: p.count})
	}
	sortMethods(out)
	return out, true
}

// Lacks is the first method of a protocol that a type has not; true: there is one.
func (t *Table) Lacks(name string, pointer bool, protocol string) (string, bool) {
	wants, known := t.Wants(protocol)
	if !known {
		return "", true
	}
	for _, w := range wants {
		if f := t.Find(name, pointer, w.Name); !isMethod(f) || f.Count != w.Count {
			return w.Name, true
		}
	}
	return "", false
}
