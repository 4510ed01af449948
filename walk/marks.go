package walk

import (
	"math"
	"strconv"

	"guise/api"
)

// mark is one for all keys of a store that are equal, and for no others, of those that are equal to themselves.
type mark struct {
	kind int
	name string
	n    uint64
	s    string
}

// markOf is a key's mark; coming: it comes into the store now.
func (s *store) markOf(v value, coming bool) mark {
	m := mark{kind: kindOf(v)}
	if v != nil {
		m.name = v.named()
	}
	switch x := v.(type) {
	case boolean:
		if x.yes {
			m.n = 1
		}
	case integer:
		m.n = uint64(x.n)
	case float:
		if math.Float64frombits(x.bits) != 0 { // 0 and -0 have one mark
			m.n = x.bits
		}
	case text:
		m.s = x.s
	case pointer:
		if x.object != nil {
			m.n, m.s = uint64(x.object.number), pathText(x.path)
		}
	case *structure:
		m.s = s.itemsText(x.items, coming)
	}
	return m
}

func pathText(path []int) string {
	var out []byte
	for _, field := range path {
		out = append(out, byte(field))
	}
	return string(out)
}

// longText: a longer text within a struct stands in marks by its number in the store. So marks are short, however many keys a long text is a part of.
const longText = 64

// itemsText has each text behind its length: so no two rows of items have the same.
func (s *store) itemsText(items []value, coming bool) string {
	var out []byte
	for _, item := range items {
		m := s.markOf(item, coming)
		if m.kind == api.KText && len(m.s) > longText {
			m.n, m.s = s.numberOf(m.s, coming), ""
		}
		out = append(out, byte(m.kind))
		out = strconv.AppendUint(out, m.n, 10)
		for _, part := range []string{m.name, m.s} {
			out = append(out, ' ')
			out = strconv.AppendInt(out, int64(len(part)), 10)
			out = append(out, ' ')
			out = append(out, part...)
		}
	}
	return string(out)
}

// numberOf is a long text's number, from 1 on; of one that stands in no key a number that no text has.
func (s *store) numberOf(long string, coming bool) uint64 {
	n, known := s.long[long]
	switch {
	case known:
		return n
	case !coming:
		return math.MaxUint64
	case s.long == nil:
		s.long = map[string]uint64{}
	}
	n = uint64(len(s.long)) + 1
	s.long[long] = n
	return n
}
