package assert

import "guise/api"

// astray is the fault of a name that is looked for in d; nil: it leads somewhere, as far as d tells.
func astray(d api.Datum, found api.Found, name string) error {
	switch {
	case found.Kind == 0:
		return fault("missing", name+" of "+called(d))
	case found.Kind == api.FoundTwice:
		return fault("missing", name+" of "+called(d)+" twice")
	case toNone(d) && !wantsPointer(found), endsAtNone(d, found):
		return fault("nil", sought(found)+name)
	}
	return nil
}

// wantsPointer: it is a method that a pointer is handed to as it is, so that it may be one to none.
func wantsPointer(found api.Found) bool {
	return found.Kind == api.FoundMethod && found.Pointer && len(found.Path) == 0
}

func sought(found api.Found) string {
	if found.Kind == api.FoundField {
		return "field "
	}
	return "method "
}

// endsAtNone: the way leads through a pointer to none, or to one whose struct is wanted, or to a protocol that is nil.
func endsAtNone(d api.Datum, found api.Found) bool {
	wantsStruct := found.Kind == api.FoundMethod && !found.Pointer
	for i, item := range way(d, found.Path) {
		last := i == len(found.Path)-1
		if toNone(item) && (!last || wantsStruct) || last && found.Kind == api.FoundProtocol && isNil(item) {
			return true
		}
	}
	return false
}

// way is the items that a path names, one within another, as far as there are structs that have them.
func way(d api.Datum, path []int) []api.Datum {
	var out []api.Datum
	for _, number := range path {
		if !isStruct(d) || number >= len(d.Items) {
			break
		}
		d = d.Items[number]
		out = append(out, d)
	}
	return out
}
