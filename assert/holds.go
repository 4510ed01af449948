package assert

import (
	"guise/api"
	"guise/types"
)

// refused is the fault of an assertion; nil: d holds what is wanted.
func refused(t *types.Table, d api.Datum, want string, pointer bool) error {
	switch {
	case isNil(d):
		return conversion(d, want, pointer, "")
	case isProtocol(t, want, pointer):
		if name, lacks := t.Lacks(d.Type, isPointer(d), want); lacks {
			return conversion(d, want, pointer, ": no "+name)
		}
	case d.Type != want || isPointer(d) != pointer:
		return conversion(d, want, pointer, "")
	}
	return nil
}

// isProtocol: a pointer to a protocol is none, whatever its name.
func isProtocol(t *types.Table, want string, pointer bool) bool {
	_, known := t.Wants(want)
	return known && !pointer
}

func conversion(d api.Datum, want string, pointer bool, why string) error {
	return fault("conversion", called(d)+" is not "+starred(want, pointer)+why)
}

// called is what a datum is called where it is told of.
func called(d api.Datum) string {
	if isNil(d) {
		return "nil"
	}
	return starred(d.Type, isPointer(d))
}

func starred(name string, pointer bool) string {
	if pointer {
		return "*" + name
	}
	return name
}

func fits(t *types.Table, d api.Datum, c Case) bool {
	if c.Nil {
		return isNil(d)
	}
	return Holds(t, d, c.Want, c.Pointer)
}
