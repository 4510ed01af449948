package image_test

import (
	"fmt"
	"strings"
	"testing"

	"guise/api"
)

// some are images of one program at several points of its run, with what stands in them.
type some struct{ s, own, b string }

func images(t testing.TB) []some {
	t.Helper()
	var out []some
	s := "func main() { defer print(1); l := [1, \"x\"]; for i in l { print(i) }; panic(l) }"
	for _, pieces := range [][]int{{}, {5}, {99}} {
		m := made(t, s, 5, pieces...)
		out = append(out, some{s, ownBytes(t, m), saved(t, m, s)})
	}
	m := made(t, least, 5)
	return append(out, some{least, ownBytes(t, m), saved(t, m, least)})
}

// Each beginning of an image ends within something: that one's place is told.
func TestCheckOfBeginnings(t *testing.T) {
	for _, x := range images(t) {
		for n := range len(x.b) {
			at := 10 + len(x.s)
			switch {
			case n < 6:
				at = n
			case n < 14+len(x.s):
				at = 6
			}
			wantNoImage(t, fmt.Sprint(n, " bytes"), x.b[:n], at)
		}
	}
}

// What stands behind an image is told by its own place, however much it is.
func TestCheckOfMoreBehind(t *testing.T) {
	for _, x := range images(t) {
		for _, more := range []string{"x", "\x00", x.b, x.b[len(x.b)-4:], strings.Repeat("a", api.MaxImage-len(x.b))} {
			wantNoImage(t, fmt.Sprint(len(more), " more"), x.b+more, len(x.b))
		}
	}
}

// Of an image of which one byte is another one: the first of the sign's; a length, or what it is wrong with then; else the check.
func TestCheckOfAnotherByte(t *testing.T) {
	t.Parallel()
	for _, x := range images(t) {
		for i := range len(x.b) {
			for _, by := range []byte{1, 2, 4, 8, 16, 32, 64, 128, 255} {
				b := x.b[:i] + string([]byte{x.b[i] ^ by}) + x.b[i+1:]
				at, _ := placeOf(t, b)
				lengths := i >= 6 && i < 10 || i >= 10+len(x.s) && i < 14+len(x.s)
				if must := len(b) - 4; at < 0 || i < 6 && at != i || i >= 6 && !lengths && at != must {
					t.Fatalf("the second reading tells %d of the byte %d of %d", at, i, len(b))
				}
				wantNoImage(t, fmt.Sprint("the byte ", i), b, at)
			}
		}
	}
}

// Lengths that are too great, by one and by as much as may be, or too small by one; with a right check behind them.
func TestCheckOfLengths(t *testing.T) {
	for _, x := range images(t) {
		s, n := uint64(len(x.s)), uint64(len(x.own))
		for _, length := range []uint64{s + n + 5, s + n + 9, 1 << 24, 7999982, 8000000, 1<<31 - 1, 1 << 31, 1<<32 - 14, 1<<32 - 1} {
			wantNoImage(t, fmt.Sprint("a source of ", length), sealed("GUISE1"+inFour(length)+x.s+inFour(n)+x.own), 6)
		}
		for _, length := range []uint64{n + 1, n + 2, n + 4, 1 << 24, 8000000, 1<<31 - 1, 1 << 31, 1<<32 - 1} {
			wantNoImage(t, fmt.Sprint("a machine of ", length), sealed("GUISE1"+inFour(s)+x.s+inFour(length)+x.own), 10+len(x.s))
		}
		wantNoImage(t, "a machine that is shorter", sealed("GUISE1"+inFour(s)+x.s+inFour(n-1)+x.own), len(x.b)-1)
		wantNoImage(t, "a machine of nothing", sealed("GUISE1"+inFour(s)+x.s+inFour(0)+x.own), 14+len(x.s)+4)
	}
}

// Lengths that reach just to the end.
func TestCheckOfLengthsThatJustFit(t *testing.T) {
	wantNoImage(t, "no source, no machine", sealed(unsealed("", "")), 10)
	wantNoImage(t, "no source, without a check", unsealed("", ""), 10)
	wantNoImage(t, "no source, without a machine", "GUISE1\x00\x00\x00\x00", 6)
	wantNoImage(t, "no source, three bytes", "GUISE1\x00\x00\x00\x00abc", 6)
	wantNoImage(t, "a source, four bytes of a length", "GUISE1\x00\x00\x00\x01a\x00\x00\x00\x00", 11)
	wantNoImage(t, "a source, and a check that is another one", "GUISE1\x00\x00\x00\x01a\x00\x00\x00\x00abcd", 15)
	wantNoImage(t, "a source that can't be, no machine", sealed(unsealed("a", "")), 10)
	wantNoImage(t, "a source, no machine", sealed(unsealed(least, "")), 29)
}

// More than MaxImage bytes, whatever they are; and just so many.
func TestCheckOfTooMany(t *testing.T) {
	x := images(t)[0]
	wantNoImage(t, "one more", x.b+strings.Repeat("x", api.MaxImage-len(x.b)+1), 0)
	wantNoImage(t, "another sign", strings.Repeat("x", api.MaxImage+1), 0)
	wantNoImage(t, "the sign is another one behind its beginning", "GUISX"+strings.Repeat("x", api.MaxImage), 0)
	wantNoImage(t, "just so many", "GUISX"+strings.Repeat("x", api.MaxImage-5), 4)
	most := strings.Repeat("y", api.MaxImage-18-len(x.s))
	wantNoImage(t, "just so many, with a right check", sealed(unsealed(x.s, most)), 14+len(x.s))
	wantNoImage(t, "one more, with a right check", sealed(unsealed(x.s, most+"y")), 0)
}

// The sign's bytes: the first that is another one, also where they end behind it.
func TestCheckOfTheSign(t *testing.T) {
	x := images(t)[0]
	for i := range 6 {
		for _, other := range []byte{0, 'G', '1', 255, ' '} {
			if other == x.b[i] {
				continue
			}
			b := x.b[:i] + string([]byte{other}) + x.b[i+1:]
			wantNoImage(t, "another byte", b, i)
			wantNoImage(t, "another byte, sealed", sealed(b[:len(b)-4]), i)
			wantNoImage(t, "ended behind it", b[:i+1], i)
			wantNoImage(t, "all behind it others", x.b[:i]+strings.Repeat(string([]byte{other}), 6-i)+x.b[6:], i)
		}
		wantNoImage(t, "zeros behind it", x.b[:i]+strings.Repeat("\x00", 6-i), i)
	}
	wantNoImage(t, "a sign in small letters", "guise1"+x.b[6:], 0)
}

// A right check over a source that can't be compiled, with any machine's bytes.
func TestCheckOfASourceThatCantBe(t *testing.T) {
	x := images(t)[0]
	for s := range unfit() {
		for _, own := range []string{x.own, "", "other bytes"} {
			wantNoImage(t, brief(s), sealed(unsealed(s, own)), 10)
		}
	}
}

// A right check over a machine's bytes that are spoilt, or another program's.
func TestCheckOfMachinesThatCantBe(t *testing.T) {
	t.Parallel()
	all := images(t)
	for i, x := range all {
		at := 14 + len(x.s)
		for n := range len(x.own) {
			wantNoImage(t, "cut", sealed(unsealed(x.s, x.own[:n])), at)
			wantNoImage(t, "another byte", sealed(unsealed(x.s, x.own[:n]+string([]byte{x.own[n] ^ byte(1+n%255)})+x.own[n+1:])), at)
		}
		wantNoImage(t, "a byte more", sealed(unsealed(x.s, x.own+"\x00")), at)
		wantNoImage(t, "an image", sealed(unsealed(x.s, x.b)), at)
		wantNoImage(t, "a blank more ahead of the source", sealed(unsealed(" "+x.s, x.own)), at+1)
		for k, y := range all {
			if (i == len(all)-1) != (k == len(all)-1) {
				wantNoImage(t, "of another program", sealed(unsealed(x.s, y.own)), at)
			} else {
				loaded(t, sealed(unsealed(x.s, y.own)), x.s)
			}
		}
	}
}

// What holds first is told, where several hold: each wrong thing is laid beneath those ahead of it.
func TestCheckOfSeveral(t *testing.T) {
	x := images(t)[1]
	bad := "func main( { }"
	s, n := len(bad), len(x.own)
	own := "spoilt" + x.own[6:]
	right := unsealed(bad, own)
	wantNoImage(t, "the machine, the source", sealed(right), 10)
	wantNoImage(t, "and the check", right+"abcd", 14+s+n)
	wantNoImage(t, "and a byte behind it", right+"abcde", 18+s+n)
	longer := "GUISE1" + inFour(uint64(s)) + bad + inFour(uint64(n+2)) + own + "abcde"
	wantNoImage(t, "a machine's length instead", longer, 10+s)
	wantNoImage(t, "and a source's length", "GUISE1"+inFour(1<<30)+longer[10:], 6)
	wantNoImage(t, "and the sign", "GUISE2"+inFour(1<<30)+longer[10:], 5)
	wantNoImage(t, "and two bytes of the sign", "GUI"+"\x00\x00\x00"+inFour(1<<30)+longer[10:], 3)
	wantNoImage(t, "and too many", "GUISE2"+inFour(1<<30)+longer[10:]+strings.Repeat("x", api.MaxImage), 0)
}
