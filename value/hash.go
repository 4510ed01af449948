package value

import "guise/api"

const (
	firstHash = 0xCBF29CE484222325
	stirring  = 0x9E3779B97F4A7C15
)

// hashed is made of what equal ones have in common, and of nothing else.
func hashed(d api.Datum) uint64 { return stirredIn(firstHash, d) }

// stirredIn takes how long each row is ahead of it: else two that are laid out unlike would be one row.
func stirredIn(h uint64, d api.Datum) uint64 {
	c := coreOf(d)
	h = stirredText(stirred(h, uint64(c.kind)), c.name)
	h = stirred(h, uint64(c.n))
	h = stirred(h, c.bits)
	h = stirredText(h, c.s)
	h = stirred(h, uint64(c.object))
	h = stirredText(h, string(c.path[:c.steps]))
	h = stirred(h, uint64(len(d.Items)))
	for _, item := range d.Items {
		h = stirredIn(h, item)
	}
	return h
}

func stirredText(h uint64, s string) uint64 {
	h = stirred(h, uint64(len(s)))
	for i := range len(s) {
		h = stirred(h, uint64(s[i]))
	}
	return h
}

// stirred folds what stands high into what stands low: whoever takes a hash may look at its lowest bits alone.
func stirred(h, n uint64) uint64 {
	h = (h ^ n) * stirring
	return h ^ h>>32
}
