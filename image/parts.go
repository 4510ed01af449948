package image

import (
	"strings"

	"guise/api"
)

const (
	sign     = "GUISE1"
	sourceAt = len(sign) + numberLen
	around   = sourceAt + numberLen + checkLen // bytes of an image that has nothing within
)

const numberLen, checkLen = 4, 4

// ownAt is where the machine's bytes begin.
func ownAt(source string) int { return sourceAt + len(source) + numberLen }

// head is what an image begins with.
type head [len(sign)]byte

// headOf is that of any bytes: those that are lacking are 0, so they are others than the sign's.
func headOf(b string) head {
	var h head
	copy(h[:], b)
	return h
}

// sealed writes an image.
func sealed(source, own string) string {
	var out strings.Builder
	out.Grow(around + len(source) + len(own))
	out.WriteString(sign)
	for _, part := range []string{source, own} {
		length := fourOf(uint32(len(part)))
		out.Write(length[:])
		out.WriteString(part)
	}
	check := fourOf(checkOf(out.String()))
	out.Write(check[:])
	return out.String()
}

// parts reads what sealed wrote: the source and the machine's bytes, as pieces of b.
func parts(b string) (source, own string, err error) {
	if len(b) > api.MaxImage {
		return "", "", noImage(0)
	}
	if h := headOf(b); h != headOf(sign) {
		return "", "", noImage(firstOther(h))
	}
	source, err = part(b, len(sign))
	if err != nil {
		return "", "", err
	}
	own, err = part(b, sourceAt+len(source))
	if err != nil {
		return "", "", err
	}
	end := ownAt(source) + len(own)
	if len(b) > end+checkLen {
		return "", "", noImage(end + checkLen)
	}
	if fourAt(b, end) != fourOf(checkOf(b[:end])) {
		return "", "", noImage(end)
	}
	return source, own, nil
}

// firstOther is the first byte of a head that is not the sign's.
func firstOther(h head) int {
	at := 0
	for h[at] == sign[at] {
		at++
	}
	return at
}

// part is what stands behind its length at a place. Four bytes more must stand behind it: the next one's length, or the check.
func part(b string, at int) (string, error) {
	from := at + numberLen
	if len(b) < from {
		return "", noImage(at)
	}
	n := fourAt(b, at).number()
	if n > len(b)-from-checkLen {
		return "", noImage(at)
	}
	return b[from : from+n], nil
}
