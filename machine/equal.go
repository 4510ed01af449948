package machine

import (
	"math"
	"slices"
	"strconv"
)

// equal holds two values against each other; where that can't be done, it tells the type with which it can't (else no text).
func equal(a, b value) (bool, string) {
	if !sameType(a, b) {
		return false, ""
	}
	switch x := a.(type) {
	case nothing:
		return true, ""
	case boolean:
		return x == b.(boolean), ""
	case integer:
		return x == b.(integer), ""
	case float:
		return math.Float64frombits(x.bits) == math.Float64frombits(b.(float).bits), ""
	case text:
		return x == b.(text), ""
	case pointer:
		y := b.(pointer)
		return x.object == y.object && slices.Equal(x.path, y.path), ""
	case *structure:
		return equalItems(x.items, b.(*structure).items)
	}
	return false, a.named()
}

// equalItems ends at the first two that are not equal: what stands behind them may be what it likes.
func equalItems(a, b []value) (bool, string) {
	for i := range a {
		if same, unfit := equal(a[i], b[i]); !same {
			return false, unfit
		}
	}
	return true, ""
}

// mark is one for all values that are equal, and for no others, of those that are equal to themselves.
type mark struct {
	kind int
	name string
	n    uint64
	s    string
}

func markOf(v value) mark {
	m := mark{kind: v.kind(), name: v.named()}
	switch x := v.(type) {
	case boolean:
		if x.yes {
			m.n = 1
		}
	case integer:
		m.n = uint64(x.n)
	case float:
		if math.Float64frombits(x.bits) != 0 { // 0 and -0 have one mark
			m.n = x.bits
		}
	case text:
		m.s = x.s
	case pointer:
		if x.object != nil {
			m.n, m.s = uint64(x.object.number), pathText(x.path)
		}
	case *structure:
		m.s = itemsText(x.items)
	}
	return m
}

func pathText(path []int) string {
	var out []byte
	for _, field := range path {
		out = append(out, byte(field))
	}
	return string(out)
}

// itemsText has each text behind its length: so no two rows of items have the same.
func itemsText(items []value) string {
	var out []byte
	for _, item := range items {
		m := markOf(item)
		out = append(out, byte(m.kind))
		out = strconv.AppendUint(out, m.n, 10)
		for _, s := range []string{m.name, m.s} {
			out = append(out, ' ')
			out = strconv.AppendInt(out, int64(len(s)), 10)
			out = append(out, ' ')
			out = append(out, s...)
		}
	}
	return string(out)
}
