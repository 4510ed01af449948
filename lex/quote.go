package lex

import (
	"strings"

	"guise/api"
)

const sixteen = "0123456789abcdef"

// Quote writes a text as a literal, Unquote reads one.
func Quote(s string) string {
	out := make([]byte, 0, len(s)+2)
	out = append(out, '"')
	for i := range len(s) {
		out = appendQuoted(out, s[i])
	}
	return string(append(out, '"'))
}

func appendQuoted(out []byte, b byte) []byte {
	switch {
	case b == '"' || b == '\\':
		return append(out, '\\', b)
	case b == '\n':
		return append(out, '\\', 'n')
	case b == '\t':
		return append(out, '\\', 't')
	case b < ' ' || b > '~':
		return append(out, '\\', 'x', sixteen[b>>4], sixteen[b&15])
	}
	return append(out, b)
}

func Unquote(s string) (string, error) {
	if !strings.HasPrefix(s, `"`) {
		return "", wrong(api.ErrQuote, 0)
	}
	said, end, err := literalAt(s, 0)
	if err != nil {
		return "", err
	}
	if end < len(s) {
		return "", wrong(api.ErrQuote, end)
	}
	if len(said) > api.MaxText {
		return "", wrong(api.ErrLong, 0)
	}
	return said, nil
}

// literalAt tells what the literal says that begins at a place, and the place behind it.
func literalAt(s string, from int) (string, int, error) {
	var said []byte
	begin := from + 1
	next := begin // what stands from here on has not been said yet
	for i, r := range s[begin:] {
		at := begin + i
		if at < next {
			continue
		}
		switch r {
		case '\n':
			return "", 0, wrong(api.ErrQuote, from)
		case '"':
			said = append(said, s[next:at]...)
			return string(said), at + 1, nil
		case '\\':
			b, length := escape(s[at:])
			if length == 0 {
				return "", 0, wrong(api.ErrQuote, at)
			}
			said = append(said, s[next:at]...)
			said = append(said, b)
			next = at + length
		}
	}
	return "", 0, wrong(api.ErrQuote, from)
}

// escape is the byte that the escape says that s begins with, and its length, 0 if it is none.
func escape(s string) (byte, int) {
	if len(s) < 2 {
		return 0, 0
	}
	switch s[1] {
	case 'n':
		return '\n', 2
	case 't':
		return '\t', 2
	case '\\', '"':
		return s[1], 2
	case 'x':
		return escapeByNumber(s)
	}
	return 0, 0
}

func escapeByNumber(s string) (byte, int) {
	if len(s) < 4 {
		return 0, 0
	}
	high, low := sixteenth(s[2]), sixteenth(s[3])
	if high < 0 || low < 0 {
		return 0, 0
	}
	return byte(high<<4 | low), 4
}

// sixteenth is the number that a digit to the base sixteen stands for, -1 if it is none.
func sixteenth(b byte) int {
	switch {
	case '0' <= b && b <= '9':
		return int(b - '0')
	case 'a' <= b && b <= 'f':
		return int(b-'a') + 10
	case 'A' <= b && b <= 'F':
		return int(b-'A') + 10
	}
	return -1
}
