package walk

import (
	"guise/api"
	"guise/assert"
	"guise/types"
)

// question is what is asked of a type, or of a pointer to it.
type question struct {
	name    string
	pointer bool
	what    string
}

func asked(v value, what string) question {
	return question{v.named(), v.kind() == api.KPointer, what}
}

// find is chapter 5's answer; it is kept, since the same is asked at every turn of a loop.
func (p *program) find(q question) api.Found {
	found, kept := p.found[q]
	if !kept {
		found = p.table.Find(q.name, q.pointer, q.what)
		p.found[q] = found
	}
	return found
}

// wish is whether a type, or a pointer to it, is what is wanted, or has all that it wants; star: a pointer is wanted.
type wish struct {
	question
	star bool
}

type answer struct{ yes bool }

// holds is chapter 8's answer, kept likewise.
func (p *program) holds(v value, want string, star bool) bool {
	if v == nil {
		return false
	}
	w := wish{asked(v, want), star}
	a, kept := p.held[w]
	if !kept {
		a.yes = assert.Holds(p.table, headOf(v), want, star)
		p.held[w] = a
	}
	return a.yes
}

// must is the value, if it holds that.
func (r *run) must(v value, want string, star bool) value {
	if !r.holds(v, want, star) {
		_, err := assert.Must(r.table, headOf(v), want, star)
		panic(r.faultOf(err))
	}
	return v
}

// mayStand: a value may be laid into a field of a struct type.
func (r *run) mayStand(name string, field int, v value) {
	s := r.shapes[name]
	switch s.embeds[field] {
	case types.EmbedValue:
		r.must(v, s.fields[field], false)
	case types.EmbedPointer:
		r.must(v, s.fields[field], true)
	case types.EmbedProtocol:
		if v != nil {
			r.must(v, s.fields[field], false)
		}
	}
}

// there is what a name is of a value: what is not there is a fault.
func (r *run) there(v value, name string) api.Found {
	if v == nil {
		panic(r.fault("nil", "field "+name))
	}
	found := r.find(asked(v, name))
	if found.Kind == 0 || found.Kind == api.FoundTwice {
		panic(r.missing(name, nameOf(v), found))
	}
	return found
}

func (r *run) missing(name, of string, found api.Found) thrown {
	more := name + " of " + of
	if found.Kind == api.FoundTwice {
		more += " twice"
	}
	return r.fault("missing", more)
}

// pointed is what a pointer leads to; more says for what it was asked.
func (r *run) pointed(p pointer, more string) *structure {
	if p.object == nil {
		panic(r.fault("nil", more))
	}
	return p.read()
}

// opened is the struct that a value is, or to which it leads.
func (r *run) opened(v value, more string) *structure {
	if p, is := v.(pointer); is {
		return r.pointed(p, more)
	}
	return v.(*structure)
}

// along is what stands at the end of a path of fields, and the last pointer on the way, with the fields that lie behind it.
func (r *run) along(v value, path []int, more string) (value, pointer, []int) {
	var base pointer
	from := 0
	for i, field := range path {
		s := r.opened(v, more)
		if p, is := v.(pointer); is {
			base, from = p, i
		}
		v = s.items[field]
	}
	return v, base, path[from:]
}

// selected is a field's value, or a method that is bound, and which of both.
func (r *run) selected(v value, name string) (value, bool) {
	found := r.there(v, name)
	if found.Kind != api.FoundField {
		return funcOf(r.bind(v, name, found)), true
	}
	field, _, _ := r.along(v, found.Path, "field "+name)
	return field, false
}

// bind binds the method that was found of a value. One that an embedded protocol gives is the one of the value that stands there; these may lead to one another for good, so that they are counted.
func (r *run) bind(e value, name string, found api.Found) callee {
	v, more := e, "method "+name
	for gone := 0; found.Kind == api.FoundProtocol; gone++ {
		if gone == api.MaxNest {
			panic(r.missing(name, nameOf(e), found))
		}
		v, _, _ = r.along(v, found.Path, more)
		if v == nil {
			panic(r.fault("nil", more))
		}
		found = r.find(asked(v, name))
	}
	v, base, rest := r.along(v, found.Path, more)
	if s, is := v.(*structure); is && found.Pointer {
		v = base.part(s.name, rest)
	}
	if p, is := v.(pointer); is && !found.Pointer {
		v = r.pointed(p, more)
	}
	if found.Type == "fault" {
		return faultError{v.(pointer)}
	}
	return bound{r.methods[question{name: found.Type, what: name}], v}
}

// express is a method expression.
func (r *run) express(q question) value {
	found := r.find(q)
	if found.Kind != api.FoundMethod && found.Kind != api.FoundProtocol {
		name := q.name
		if q.pointer {
			name = "*" + name
		}
		panic(r.missing(q.what, name, found))
	}
	r.take(1)
	return funcOf(expression{q.name, q.pointer, q.what, found})
}
