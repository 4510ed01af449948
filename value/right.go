package value

import (
	"math"

	"guise/api"
)

const oneNaN = 0x7FF8000000000001 // of the floats that are no number only this one may be

// ownNames are the kinds' own names, by their numbers.
var ownNames = [...]string{api.KBool: "bool", api.KInt: "int", api.KFloat: "float", api.KText: "text", api.KList: "list", api.KMap: "map", api.KFunc: "func"}

// right takes the size of d from room: however large d is, no more of it is looked at than there is room for.
func right(d api.Datum, room *int) bool {
	*room--
	if *room < 0 || !rightType(d) || headOf(d) != headOf(ownOf(d)) {
		return false
	}
	switch d.Kind {
	case api.KBool:
		return d.N == 0 || d.N == 1
	case api.KFloat:
		return d.F == oneNaN || !math.IsNaN(math.Float64frombits(d.F))
	case api.KText:
		return len(d.S) <= api.MaxText
	case api.KList:
		return rightPiece(d.Ref)
	case api.KMap, api.KFunc:
		return rightObject(d.Ref.Object)
	case api.KStruct:
		return rightItems(d.Items, room)
	case api.KPointer:
		return rightTarget(d.Ref)
	}
	return true
}

// ownOf is d without all that its kind has not.
func ownOf(d api.Datum) api.Datum {
	own := api.Datum{Kind: d.Kind, Type: d.Type}
	switch d.Kind {
	case api.KBool, api.KInt:
		own.N = d.N
	case api.KFloat:
		own.F = d.F
	case api.KText:
		own.S = d.S
	case api.KList:
		own.Ref = d.Ref
		own.Ref.Path = nil
	case api.KMap, api.KFunc:
		own.Ref.Object = d.Ref.Object
	case api.KStruct:
		own.Items = d.Items
	case api.KPointer:
		own.Ref.Object, own.Ref.Path = d.Ref.Object, d.Ref.Path
	}
	return own
}

func rightType(d api.Datum) bool {
	switch {
	case d.Kind == api.KNil:
		return d.Type == ""
	case d.Kind < api.KBool || d.Kind > api.KPointer:
		return false
	case d.Kind <= api.KFunc && d.Type == ownNames[d.Kind]:
		return true
	}
	return declared(d.Type)
}

func declared(name string) bool {
	if name == "" || len(name) > api.MaxName || taken(name) {
		return false
	}
	for i := range len(name) {
		if !letter(name[i]) && (i == 0 || !digit(name[i])) {
			return false
		}
	}
	return true
}

func taken(name string) bool {
	for _, own := range ownNames {
		if name == own {
			return true
		}
	}
	switch name {
	case "any", "nil", "struct", "pointer":
		return true
	}
	return false
}

func letter(c byte) bool { return 'a' <= c && c <= 'z' || 'A' <= c && c <= 'Z' || c == '_' }

func digit(c byte) bool { return '0' <= c && c <= '9' }

func rightObject(n int) bool { return 0 <= n && n <= api.MaxObjects }

// rightPiece looks at Cap ahead of From: their sum may be none that an int can tell.
func rightPiece(r api.Ref) bool {
	if r.Object == 0 {
		return r.From == 0 && r.Len == 0 && r.Cap == 0
	}
	return rightObject(r.Object) && r.From >= 0 && 0 <= r.Len && r.Len <= r.Cap && r.Cap <= api.MaxRoom && r.From <= api.MaxRoom-r.Cap
}

func rightItems(items []api.Datum, room *int) bool {
	if len(items) > api.MaxFields {
		return false
	}
	for _, item := range items {
		if !right(item, room) {
			return false
		}
	}
	return true
}

func rightTarget(r api.Ref) bool {
	if !rightObject(r.Object) || len(r.Path) > api.MaxSize || r.Object == 0 && len(r.Path) > 0 {
		return false
	}
	for _, n := range r.Path {
		if n < 0 || n >= api.MaxFields {
			return false
		}
	}
	return true
}
