package image_test

import (
	"fmt"
	"hash/crc32"
	"strings"
	"testing"

	"guise/api"
	"guise/image"
)

// The check of the second reading is the one that is known by this name elsewhere.
func TestCheckByBits(t *testing.T) {
	if bitByBit("123456789") != 0xcbf43926 || bitByBit("") != 0 {
		t.Fatalf("the check is %x, %x", bitByBit("123456789"), bitByBit(""))
	}
	r := dice(1)
	for n := range 600 {
		b := make([]byte, n)
		for i := range b {
			b[i] = byte(r.IntN(256))
		}
		if bitByBit(string(b)) != uint64(crc32.ChecksumIEEE(b)) {
			t.Fatalf("the check of %q is %x", b, bitByBit(string(b)))
		}
	}
}

// Each byte of an image is the one that the form says.
func TestFormByteByByte(t *testing.T) {
	for _, s := range playable() {
		for _, pieces := range [][]int{{}, {0}, {1}, {7}, {30}, {1, 60}, {3000}} {
			m := made(t, s, 9, pieces...)
			own := ownBytes(t, m)
			b := saved(t, m, s)
			is(t, "the form: the sign", b[:6], "GUISE1")
			is(t, "the form: the source's length", b[6:10], inFour(uint64(len(s))))
			is(t, "the form: the source", b[10:10+len(s)], s)
			is(t, "the form: the machine's length", b[10+len(s):14+len(s)], inFour(uint64(len(own))))
			is(t, "the form: the machine's bytes", b[14+len(s):len(b)-4], own)
			is(t, "the form: the check", b[len(b)-4:], inFour(bitByBit(b[:len(b)-4])))
			is(t, "the form", b, sealed(unsealed(s, own)))
		}
	}
}

// Lengths of one, two and three bytes; the longest source.
func TestFormOfLongParts(t *testing.T) {
	for _, length := range []int{15, 127, 128, 255, 256, 257, 511, 32768, 59999, api.MaxSource} {
		s := "func main() { }" + strings.Repeat(" ", length-15)
		m := made(t, s, 5)
		b := saved(t, m, s)
		is(t, fmt.Sprint("the form, with a source of ", length), b, sealed(unsealed(s, ownBytes(t, m))))
		loaded(t, b, s)
	}
	s := "func main() { l := []; for i in 65000 { l = append(l, -i * 1000000007 * 1000000009) }; for { } }"
	for _, fuel := range []int{100, 1000, 10000, 100000, 150000} {
		m := made(t, s, 5, fuel)
		b := saved(t, m, s)
		is(t, fmt.Sprint("the form, behind ", fuel), b, sealed(unsealed(s, ownBytes(t, m))))
		loaded(t, b, s)
	}
}

// A source is any bytes that can be compiled: a text with a 0 in it, or with bytes that are no letters.
func TestFormOfAnyBytes(t *testing.T) {
	for _, s := range []string{
		"func main() { print(\"\\x00\\xff\") } // \xff\xfe GUISE1",
		"// \x00\x00\x00\x00\nfunc main() { print(\"é\") }",
		"\n\n\tfunc main() { }\n\n",
	} {
		m := made(t, s, 5, 1)
		b := saved(t, m, s)
		is(t, "the form", b, sealed(unsealed(s, ownBytes(t, m))))
		if source, err := image.Check(b); source != s || err != nil {
			t.Errorf("P19.2: %q, %s; must be %q", source, told(err), s)
		}
	}
}
