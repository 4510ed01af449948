package number

import (
	"math"
	"strings"

	"guise/api"
)

// Convert makes a value of another type of that kind.
func Convert(kind int, name string, a api.Datum) (api.Datum, error) {
	switch {
	case kind == a.Kind && kind >= api.KBool && kind <= api.KFunc:
		return renamed(name, a), nil
	case kind == api.KInt && a.Kind == api.KFloat:
		return intOf(name, whole(math.Float64frombits(a.F))), nil
	case kind == api.KFloat && a.Kind == api.KInt:
		return floatOf(name, math.Float64bits(float64(a.N))), nil
	}
	return api.Datum{}, fault("operand", name+" "+Name(a))
}

func renamed(name string, a api.Datum) api.Datum {
	switch a.Kind {
	case api.KBool:
		return api.Datum{Kind: api.KBool, Type: strings.Clone(name), N: a.N}
	case api.KInt:
		return intOf(name, a.N)
	case api.KFloat:
		return floatOf(name, a.F)
	case api.KText:
		return textOf(name, a.S)
	}
	out := api.Datum{Kind: a.Kind, Type: strings.Clone(name), Ref: a.Ref}
	out.Ref.Path = append([]int(nil), a.Ref.Path...)
	return out
}

// whole asks first whether it is an int: what a machine makes of other floats is its own choice.
func whole(f float64) int {
	if f >= -1<<63 && f < 1<<63 {
		return int(f)
	}
	return math.MinInt64
}
