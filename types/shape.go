package types

import "guise/api"

// shape is a type, or a protocol: that one is of no kind.
type shape struct {
	kind   int
	given  bool    // it is there from the beginning
	fields []field // of a struct type
	parts  map[string]part
}

// field is one of a struct type; an embedded one bears its type's name.
type field struct {
	name  string
	embed int
}

// part is what a name is of a type, or a protocol: a field or a method, never both.
type part struct {
	field   bool
	number  int  // of a field
	pointer bool // of a method: its receiver is one
	count   int  // of a method
}

// basic: one of the seven types that all others are made of.
func (s shape) basic() bool { return s.given && s.kind != api.KNil && s.kind != api.KStruct }

// fromTheBeginning is what is there without being declared.
func fromTheBeginning() map[string]shape {
	shapes := map[string]shape{
		"fault": {
			kind:   api.KStruct,
			given:  true,
			fields: []field{{name: "word"}, {name: "more"}},
			parts:  map[string]part{"word": {field: true}, "more": {field: true, number: 1}, "Error": {pointer: true}},
		},
		"error": {given: true, parts: map[string]part{"Error": {}}},
		"any":   {given: true},
	}
	for i, name := range []string{"bool", "int", "float", "text", "list", "map", "func"} {
		shapes[name] = shape{kind: api.KBool + i, given: true}
	}
	return shapes
}
