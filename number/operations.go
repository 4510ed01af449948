package number

import (
	"cmp"
	"math"
	"strconv"

	"guise/api"
)

const (
	signBit  = 1 << 63
	infinite = 0x7FF0000000000000 // all above it, but for the sign, is a NaN
	oneNaN   = 0x7FF8000000000001 // machines have NaNs of other bits: only these come out
)

func isNaN(bits uint64) bool { return bits&^signBit > infinite }

func turned(op string, n int) int {
	if op == "-" {
		return -n
	}
	return ^n
}

func ofInts(op string, a, b api.Datum) (api.Datum, error) {
	switch op {
	case "/", "%":
		if b.N == 0 {
			return api.Datum{}, fault("divide", "")
		}
	case "<<", ">>":
		if b.N < 0 {
			return api.Datum{}, fault("count", strconv.Itoa(b.N))
		}
	}
	return intOf(a.Type, calculated(op, a.N, b.N)), nil
}

// calculated: b may be divided, and shifted, by.
func calculated(op string, a, b int) int {
	switch op {
	case "+":
		return a + b
	case "-":
		return a - b
	case "*":
		return a * b
	case "/":
		return a / b
	case "%":
		return a % b
	case "&":
		return a & b
	case "|":
		return a | b
	case "^":
		return a ^ b
	case "<<":
		return a << uint(b)
	}
	return a >> uint(b)
}

func ofFloats(op string, a, b uint64) uint64 {
	x, y := math.Float64frombits(a), math.Float64frombits(b)
	switch op {
	case "+":
		return math.Float64bits(x + y)
	case "-":
		return math.Float64bits(x - y)
	case "*":
		return math.Float64bits(x * y)
	}
	return math.Float64bits(x / y)
}

func together(a, b api.Datum) (api.Datum, error) {
	if n := len(a.S) + len(b.S); n > api.MaxText {
		return api.Datum{}, fault("count", strconv.Itoa(n))
	}
	return textOf(a.Type, a.S+b.S), nil
}

func inOrder(op string, a, b api.Datum) bool {
	switch a.Kind {
	case api.KInt:
		return holds(op, a.N, b.N)
	case api.KFloat:
		return holds(op, math.Float64frombits(a.F), math.Float64frombits(b.F))
	}
	return holds(op, a.S, b.S)
}

// holds asks each comparison by itself: of a NaN none is so, not even one that is another's contrary.
func holds[T cmp.Ordered](op string, a, b T) bool {
	switch op {
	case "<":
		return a < b
	case "<=":
		return a <= b
	case ">":
		return a > b
	}
	return a >= b
}
