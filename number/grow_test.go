package number_test

import (
	"math"
	"math/rand/v2"
	"strconv"
	"strings"

	"guise/api"
)

// grower makes data, texts and operations by chance: those that are at an edge more often than others.
type grower struct{ *rand.Rand }

func growing(seed uint64) grower { return grower{dice(seed)} }

func (g grower) number() int {
	switch g.IntN(6) {
	case 0:
		return oneOf(g.Rand, 0, 1, -1, least, most, least+1, most-1)
	case 1:
		return 1<<g.IntN(64) + g.IntN(5) - 2
	case 2:
		return -(1 << g.IntN(64)) + g.IntN(5) - 2
	case 3:
		return g.IntN(140) - 70
	case 4:
		return int(g.Uint64()) >> g.IntN(64)
	}
	return int(g.Uint64())
}

func (g grower) bits() uint64 {
	sign := uint64(g.IntN(2)) << 63
	switch g.IntN(8) {
	case 0:
		return sign | oneOf[uint64](g.Rand, 0, smallest, normal, normal-1, greatest, infinity, oneNaN, 0x3FF0000000000000)
	case 1:
		return oneOf(g.Rand, otherNaNs...)
	case 2:
		return sign | uint64(g.IntN(2047))<<52 | uint64(g.IntN(9))
	case 3:
		return sign | math.Float64bits(float64(g.IntN(200))/float64(oneOf(g.Rand, 1, 2, 4, 10)))
	case 4:
		return math.Float64bits(float64(g.number())) + uint64(g.IntN(3)) - 1
	case 5:
		return sign | (uint64(1023+g.IntN(70))<<52 | g.Uint64()>>12)
	case 6:
		return sign | g.Uint64()>>(12+g.IntN(52))
	}
	return g.Uint64()
}

func (g grower) text() string {
	var out strings.Builder
	for range g.IntN(5) {
		out.WriteString(oneOf(g.Rand, "a", "b", "a", "\x00", "\xff", "\"", "\\", "\n", "\t", "é", "\x7f", "aab"))
	}
	return out.String()
}

func (g grower) name() string {
	return oneOf(g.Rand, "T", "T", "U", "", "int", "float", "text", "bool", "list", "nil", "a b")
}

func (g grower) kind() int {
	if g.IntN(6) == 0 {
		return g.IntN(14) - 2
	}
	return oneOf(g.Rand, api.KBool, api.KInt, api.KInt, api.KFloat, api.KFloat, api.KText)
}

func (g grower) datum() api.Datum {
	kind := g.kind()
	d := api.Datum{Kind: kind, Type: g.name(), N: g.number(), F: g.bits(), S: g.text()}
	if kind >= 0 && kind < len(kindNames) && g.IntN(2) == 0 {
		d.Type = kindNames[kind]
	}
	if kind == api.KBool && g.IntN(3) > 0 {
		d.N = g.IntN(2)
	}
	if g.IntN(2) == 0 {
		d.Ref = api.Ref{Object: g.number(), From: g.IntN(3), Len: g.IntN(3), Cap: g.IntN(5), Path: make([]int, g.IntN(4))}
		for i := range d.Ref.Path {
			d.Ref.Path[i] = g.IntN(9)
		}
	}
	if g.IntN(4) == 0 {
		d.Items = []api.Datum{{Kind: api.KText, Type: "text", S: "in it"}, {}}
	}
	return d
}

// other is a second datum: mostly of one type with the first, and near it.
func (g grower) other(a api.Datum) api.Datum {
	b := g.datum()
	if g.IntN(5) > 0 {
		b.Kind, b.Type = a.Kind, a.Type
	}
	switch g.IntN(6) {
	case 0:
		b.N, b.F, b.S = a.N, a.F, a.S
	case 1:
		b.N, b.F, b.S = a.N+1, a.F+1, a.S+g.text()
	case 2:
		b.N, b.F = -a.N, a.F^1<<63
	}
	return b
}

func (g grower) operation() string {
	return oneOf(g.Rand, operations[:g.IntN(len(operations)-15)+16]...)
}

// literal is a text that is a number, or nearly one.
func (g grower) literal() string {
	digits := strconv.FormatUint(g.Uint64(), 10)
	if g.IntN(3) == 0 {
		digits = oneOf(g.Rand, "0", "00", "9223372036854775807", "9223372036854775808", "999999999999999", "100000000000000") + digits
	}
	digits = digits[:min(len(digits), g.IntN(21))]
	if g.IntN(2) == 0 {
		at := g.IntN(len(digits) + 1)
		digits = digits[:at] + "." + digits[at:]
	}
	if g.IntN(5) == 0 {
		at := g.IntN(len(digits) + 1)
		digits = digits[:at] + oneOf(g.Rand, "0", "-", ".", " ", "e", "/", ":", "\xff", "") + digits[at:]
	}
	return digits
}
