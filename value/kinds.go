package value

import (
	"cmp"
	"math"

	"guise/api"
	"guise/number"
)

// kept is what all kinds of values embed: a right datum, into which nobody writes.
type kept struct{ d *api.Datum }

func (k kept) Type() string { return number.Name(*k.d) }

func (k kept) Datum() api.Datum { return copied(*k.d) }

// beside tells whether o may be held against the value at all.
func (k kept) beside(o api.Datum) bool { return typeOf(*k.d) == typeOf(o) && Right(o) }

// keyed is what kinds embed that can be keys, whatever they hold.
type keyed struct{ kept }

func (k keyed) Hash() uint64 { return hashed(*k.d) }

// leading is what kinds embed that lead to a thing, and are no keys.
type leading struct{ kept }

func (l leading) None() bool { return l.d.Ref.Object == 0 }

type (
	boolean   struct{ keyed }
	integer   struct{ keyed }
	float     struct{ keyed }
	text      struct{ keyed }
	list      struct{ leading }
	mapping   struct{ leading }
	function  struct{ leading }
	record    struct{ kept }
	keyRecord struct{ keyed }
	pointer   struct{ keyed }
)

func (v integer) Rank(o api.Datum) (int, bool) {
	if !v.beside(o) {
		return 0, false
	}
	return rank(v.d.N, o.N)
}

func (v float) Rank(o api.Datum) (int, bool) {
	if !v.beside(o) {
		return 0, false
	}
	return rank(math.Float64frombits(v.d.F), math.Float64frombits(o.F))
}

func (v text) Rank(o api.Datum) (int, bool) {
	if !v.beside(o) {
		return 0, false
	}
	return rank(v.d.S, o.S)
}

// rank asks each comparison by itself: of a NaN none of them is so.
func rank[T cmp.Ordered](a, b T) (int, bool) {
	switch {
	case a < b:
		return -1, true
	case a > b:
		return 1, true
	}
	return 0, a == b
}

func (v text) Len() int { return len(v.d.S) }

func (v list) Len() int { return v.d.Ref.Len }

func (v pointer) None() bool { return v.d.Ref.Object == 0 }

// behind is the value of a right datum, over that datum's own memory. Of a struct it does not ask whether it may be a key.
func behind(d *api.Datum) Value {
	k := kept{d}
	switch d.Kind {
	case api.KBool:
		return boolean{keyed{k}}
	case api.KInt:
		return integer{keyed{k}}
	case api.KFloat:
		return float{keyed{k}}
	case api.KText:
		return text{keyed{k}}
	case api.KList:
		return list{leading{k}}
	case api.KMap:
		return mapping{leading{k}}
	case api.KFunc:
		return function{leading{k}}
	case api.KStruct:
		return record{k}
	case api.KPointer:
		return pointer{keyed{k}}
	}
	return nil
}
