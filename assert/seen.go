package assert

import (
	"guise/api"
	"guise/value"
)

// pointerValue is what pointers alone are: they lead to a thing, and may be keys.
type pointerValue interface {
	value.Pointing
	value.Keyed
}

// outline is a right datum of the kind of d, that leads to none just if d does: so what is not right can be asked what it is, too.
func outline(d api.Datum) api.Datum {
	out := api.Datum{Kind: d.Kind, Type: "T"}
	switch d.Kind {
	case api.KNil:
		out.Type = ""
	case api.KStruct:
		// With a list in it a struct is no key: so of structs alone nothing can be asked.
		out.Items = []api.Datum{{Kind: api.KList, Type: "list"}}
	case api.KPointer:
		if d.Ref.Object != 0 {
			out.Ref.Object = 1
		}
	}
	return out
}

// isNil: of a kind that there is none of comes no value either, but an error.
func isNil(d api.Datum) bool {
	v, err := value.Of(outline(d))
	return v == nil && err == nil
}

func isPointer(d api.Datum) bool {
	v, _ := value.Of(outline(d))
	_, is := v.(pointerValue)
	return is
}

// toNone: a pointer to none; a list, map or func may lead to none, too, but nothing goes through it.
func toNone(d api.Datum) bool {
	v, _ := value.Of(outline(d))
	if p, is := v.(pointerValue); is {
		return p.None()
	}
	return false
}

func isStruct(d api.Datum) bool {
	v, _ := value.Of(outline(d))
	switch v.(type) {
	case nil, value.Ordered, value.Sized, value.Keyed, value.Pointing:
		return false
	}
	return true
}
