package image_test

import (
	"testing"

	"guise/compile"
	"guise/machine"
)

// A second reading of the chapter: the form, written byte by byte, and P19.2, sentence by sentence.

// bitByBit is the check as the section 'The form' says it.
func bitByBit(b string) uint64 {
	const all = 1<<32 - 1
	x := uint64(all)
	for i := 0; i < len(b); i++ {
		x ^= uint64(b[i])
		for turn := 0; turn < 8; turn++ {
			if x%2 == 1 {
				x = (x - 1) / 2
				x ^= 0xedb88320
			} else {
				x = x / 2
			}
		}
	}
	return x ^ all
}

// inFour is a number as four bytes, the highest first.
func inFour(n uint64) string {
	return string([]byte{byte(n / (1 << 24)), byte(n / (1 << 16) % 256), byte(n / 256 % 256), byte(n % 256)})
}

// ofFour is the number that four bytes are.
func ofFour(s string) uint64 {
	n := uint64(0)
	for i := 0; i < 4; i++ {
		n = n*256 + uint64(s[i])
	}
	return n
}

// unsealed is an image without its check; sealed has it.
func unsealed(source, own string) string {
	return "GUISE1" + inFour(uint64(len(source))) + source + inFour(uint64(len(own))) + own
}

func sealed(ahead string) string { return ahead + inFour(bitByBit(ahead)) }

// placeOf is the place at which bytes are refused; -1: they are an image, of that source.
func placeOf(t testing.TB, b string) (int, string) {
	const maxImage = 8000000
	has := uint64(len(b))
	if has > maxImage {
		return 0, ""
	}
	for i := 0; i < 6; i++ {
		if i == len(b) || b[i] != "GUISE1"[i] {
			return i, ""
		}
	}
	if has < 10 {
		return 6, ""
	}
	s := ofFour(b[6:])
	if 10+s+4 > has {
		return 6, ""
	}
	n := ofFour(b[10+s:])
	switch end := 14 + s + n; {
	case end+4 > has:
		return int(10 + s), ""
	case end+4 < has:
		return int(end + 4), ""
	case ofFour(b[end:]) != bitByBit(b[:end]):
		return int(end), ""
	}
	source, own := b[10:10+s], b[14+s:14+s+n]
	if _, err := compile.Text(source); err != nil {
		return 10, ""
	}
	p, table := compiled(t, source)
	if _, err := machine.Load(own, p, table); err != nil {
		return int(14 + s), ""
	}
	return -1, source
}
