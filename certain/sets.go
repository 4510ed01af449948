package certain

import "guise/api"

// words are enough for each type that a value can have: nil, the seven, and the declared ones and fault, with a pointer to each.
const words = (8 + 2*(api.MaxTypes+1) + 63) / 64

// set is some types, by their numbers.
type set [words]uint64

func one(number int) set {
	var s set
	s[number/64] = 1 << (number % 64)
	return s
}

func (s set) has(number int) bool { return s[number/64]>>(number%64)&1 == 1 }

func (s set) empty() bool { return s == set{} }

func (s set) with(o set) set {
	for i := range s {
		s[i] |= o[i]
	}
	return s
}

func (s set) among(o set) set {
	for i := range s {
		s[i] &= o[i]
	}
	return s
}

func (s set) without(o set) set {
	for i := range s {
		s[i] &^= o[i]
	}
	return s
}
