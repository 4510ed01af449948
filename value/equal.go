package value

import (
	"math"

	"guise/api"
	"guise/number"
)

const minusZero = 1 << 63

// typed is a type: of right ones two are of one type, if these are equal.
type typed struct {
	kind int
	name string
}

// head is all of a datum but what stands in its lists.
type head struct {
	typed
	n                          int
	bits                       uint64
	s                          string
	object, from, length, room int
	steps, items               int
}

// core is what two right ones that are no structs, lists, maps or funcs have in common, if they are equal.
type core struct {
	typed
	n             int
	bits          uint64
	s             string
	object, steps int
	path          [api.MaxSize]byte // a number on it is below MaxFields
}

func typeOf(d api.Datum) typed { return typed{d.Kind, d.Type} }

func headOf(d api.Datum) head {
	r := d.Ref
	return head{typeOf(d), d.N, d.F, d.S, r.Object, r.From, r.Len, r.Cap, len(r.Path), len(d.Items)}
}

func coreOf(d api.Datum) core {
	c := core{typed: typeOf(d), n: d.N, bits: d.F, s: d.S, object: d.Ref.Object, steps: len(d.Ref.Path)}
	if c.bits == minusZero {
		c.bits = 0
	}
	for i, n := range d.Ref.Path {
		c.path[i] = byte(n)
	}
	return c
}

// equal tells of two right ones whether they are equal, or the type at which one can't say so.
func equal(a, b api.Datum) (bool, string) {
	if typeOf(a) != typeOf(b) {
		return false, ""
	}
	switch behind(&a).(type) {
	case record:
		return allEqual(a.Items, b.Items)
	case float:
		return math.Float64frombits(a.F) == math.Float64frombits(b.F), ""
	case Keyed, nil:
		return coreOf(a) == coreOf(b), ""
	}
	return false, number.Name(a)
}

func allEqual(a, b []api.Datum) (bool, string) {
	if len(a) != len(b) {
		return false, ""
	}
	for i := range a {
		if is, culprit := equal(a[i], b[i]); !is {
			return false, culprit
		}
	}
	return true, ""
}

// incomparable is the type at which a right one can't be held against itself; empty: there is none.
func incomparable(d api.Datum) string {
	_, culprit := equal(d, d)
	return culprit
}
