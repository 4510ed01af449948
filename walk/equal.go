package walk

import (
	"math"
	"slices"
)

// equal holds two values against each other; where that can't be done, it tells the type with which it can't (else no text). It is not asked of chapter 7, which has no values of a declared type `pointer`.
func equal(a, b value) (bool, string) {
	if a == nil || b == nil || !sameType(a, b) {
		return a == nil && b == nil, ""
	}
	switch x := a.(type) {
	case boolean:
		return x == b.(boolean), ""
	case integer:
		return x == b.(integer), ""
	case float:
		return math.Float64frombits(x.bits) == math.Float64frombits(b.(float).bits), ""
	case text:
		return x == b.(text), ""
	case pointer:
		y := b.(pointer)
		return x.object == y.object && slices.Equal(x.path, y.path), ""
	case *structure:
		return equalItems(x.items, b.(*structure).items)
	}
	return false, a.named()
}

// equalItems ends at the first two that are not equal: what stands behind them may be what it likes.
func equalItems(a, b []value) (bool, string) {
	for i := range a {
		if same, unfit := equal(a[i], b[i]); !same {
			return false, unfit
		}
	}
	return true, ""
}
