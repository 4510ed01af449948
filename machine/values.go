package machine

import (
	"slices"

	"guise/api"
	"guise/number"
)

// thing is what lies on a stack: a value, a place or a turn.
type thing interface {
	// write writes it down, and so names all nodes that it leads to.
	write(p *pen)
}

// value is a value of the language. Values here are not chapter 7's data in chapter 10's heap: these have none of a declared type `pointer`, and no text longer than a text may be, which a fault can tell; and what nobody can come to any more is left to Go's own collector.
type value interface {
	thing
	kind() int
	named() string // its type; of a pointer what stands behind the *
}

type typed struct{ name string }

func (t typed) named() string { return t.name }

// nothing is the language's nil.
type nothing struct{}

type boolean struct {
	typed
	yes bool
}

type integer struct {
	typed
	n int
}

type float struct {
	typed
	bits uint64
}

type text struct {
	typed
	s string
}

// list is a piece of an array; the nil list has none.
type list struct {
	typed
	array *array
	span
}

// span is from where a piece of an array goes, how long it is, and how far it may reach.
type span struct{ from, length, capacity int }

// mapping leads to a store; the nil map to none.
type mapping struct {
	typed
	store *store
}

// function can be called by its callee; the nil func has none.
type function struct {
	typed
	callee callee
}

// structure is never changed once it is made: so whoever has one has a copy.
type structure struct {
	typed
	items []value
	size  int
}

// pointer leads to an object, or to the part of it that a path of fields leads to; the nil one to none.
type pointer struct {
	typed
	object *object
	path   []int
}

func (nothing) kind() int    { return api.KNil }
func (boolean) kind() int    { return api.KBool }
func (integer) kind() int    { return api.KInt }
func (float) kind() int      { return api.KFloat }
func (text) kind() int       { return api.KText }
func (list) kind() int       { return api.KList }
func (mapping) kind() int    { return api.KMap }
func (function) kind() int   { return api.KFunc }
func (*structure) kind() int { return api.KStruct }
func (pointer) kind() int    { return api.KPointer }

func (nothing) named() string { return "" }

func boolOf(yes bool) value    { return boolean{typed{"bool"}, yes} }
func intOf(n int) value        { return integer{typed{"int"}, n} }
func textOf(s string) value    { return text{typed{"text"}, s} }
func funcOf(c callee) value    { return function{typed{"func"}, c} }
func isNil(v value) bool       { return v.kind() == api.KNil }
func isPointer(v value) bool   { return v.kind() == api.KPointer }
func sameType(a, b value) bool { return a.kind() == b.kind() && a.named() == b.named() }

// elements are those of a list's piece.
func (l list) elements() []value {
	if l.array == nil {
		return nil
	}
	return l.array.elements[l.from : l.from+l.length]
}

func newStructure(name string, items []value) *structure {
	s := &structure{typed{name}, items, 1}
	for _, item := range items {
		s.size += sizeOf(item)
	}
	return s
}

func sizeOf(v value) int {
	if s, is := v.(*structure); is {
		return s.size
	}
	return 1
}

// with is the struct that has another value at the end of a path of fields.
func (s *structure) with(path []int, v value) *structure {
	if len(path) == 0 {
		return v.(*structure)
	}
	items := slices.Clone(s.items)
	if len(path) > 1 {
		v = items[path[0]].(*structure).with(path[1:], v)
	}
	items[path[0]] = v
	return newStructure(s.name, items)
}

// read is the struct to which a pointer, that leads to one, leads.
func (p pointer) read() *structure {
	s := p.object.held
	for _, field := range p.path {
		s = s.items[field].(*structure)
	}
	return s
}

// part is a pointer to what a path leads to from there.
func (p pointer) part(name string, path []int) pointer {
	return pointer{typed{name}, p.object, slices.Concat(p.path, path)}
}

// nameOf is a value's type as it is told.
func nameOf(v value) string { return number.Name(headOf(v)) }

// headOf is a value as far as its type tells it.
func headOf(v value) api.Datum { return api.Datum{Kind: v.kind(), Type: v.named()} }

// datumOf is a value as plain data, as far as layer 6 asks for it.
func datumOf(v value) api.Datum {
	d := headOf(v)
	switch x := v.(type) {
	case boolean:
		if x.yes {
			d.N = 1
		}
	case integer:
		d.N = x.n
	case float:
		d.F = x.bits
	case text:
		d.S = x.s
	}
	return d
}

// valueOf is the bool, int, float or text that a datum tells.
func valueOf(d api.Datum) value {
	t := typed{d.Type}
	switch d.Kind {
	case api.KBool:
		return boolean{t, d.N != 0}
	case api.KInt:
		return integer{t, d.N}
	case api.KFloat:
		return float{t, d.F}
	}
	return text{t, d.S}
}

// noneOf is the nil list, map, func or pointer of a type.
func noneOf(kind int, name string) value {
	t := typed{name}
	switch kind {
	case api.KList:
		return list{typed: t}
	case api.KMap:
		return mapping{typed: t}
	case api.KFunc:
		return function{typed: t}
	}
	return pointer{typed: t}
}

// zeroOf is the value that chapter 5's zero of a struct type tells.
func zeroOf(d api.Datum) value {
	switch d.Kind {
	case api.KPointer:
		return noneOf(d.Kind, d.Type)
	case api.KStruct:
		items := make([]value, len(d.Items))
		for i, item := range d.Items {
			items[i] = zeroOf(item)
		}
		return newStructure(d.Type, items)
	}
	return nothing{}
}

// leadsToNone: it is a nil list, map, func or pointer.
func leadsToNone(v value) bool {
	switch x := v.(type) {
	case list:
		return x.array == nil
	case mapping:
		return x.store == nil
	case function:
		return x.callee == nil
	case pointer:
		return x.object == nil
	}
	return false
}

// renamed is a list, map or func with another type.
func renamed(v value, name string) value {
	switch x := v.(type) {
	case list:
		x.name = name
		return x
	case mapping:
		x.name = name
		return x
	}
	f := v.(function)
	f.name = name
	return f
}
