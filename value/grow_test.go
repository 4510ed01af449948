package value_test

import (
	"math"
	"math/rand/v2"
	"strings"

	"guise/api"
)

// grower makes data by chance: right ones, ones that are near another, and ones in which something is not as it must be.
type grower struct{ *rand.Rand }

func growing(seed uint64) grower { return grower{dice(seed)} }

func (g grower) number() int {
	switch g.IntN(4) {
	case 0:
		return oneOf(g.Rand, 0, 1, -1, 2, math.MinInt64, math.MaxInt64)
	case 1:
		return 1<<g.IntN(64) + g.IntN(3) - 1
	case 2:
		return int(g.Uint64()) >> g.IntN(64)
	}
	return g.IntN(4)
}

func (g grower) bits() uint64 {
	switch g.IntN(5) {
	case 0:
		return oneOf[uint64](g.Rand, 0, minusZero, 0, minusZero, oneNaN, oneNaN, infinity, minusInf, smallest, greatest)
	case 1, 2:
		return math.Float64bits(float64(g.IntN(5)) - 2)
	case 3:
		return g.Uint64() &^ (1 << 62) // no NaN
	}
	return math.Float64bits(float64(g.number()))
}

func (g grower) text() string {
	var out strings.Builder
	for range g.IntN(4) {
		out.WriteString(oneOf(g.Rand, "a", "b", "a", "\x00", "\xff", "é"))
	}
	return out.String()
}

func (g grower) object() int { return oneOf(g.Rand, 0, 1, 1, 2, 3, api.MaxObjects) }

// right is a right datum: of the kinds that are given, or of any.
func (g grower) right(deep int, kinds ...int) api.Datum {
	if len(kinds) == 0 {
		kinds = []int{api.KNil, api.KBool, api.KInt, api.KFloat, api.KText, api.KList, api.KMap, api.KFunc, api.KPointer, api.KStruct, api.KStruct, api.KStruct}
	}
	d := api.Datum{Kind: oneOf(g.Rand, kinds...)}
	if d.Type = kindNames[d.Kind]; d.Kind != api.KNil && (d.Type == "" || g.IntN(3) == 0) {
		d.Type = oneOf(g.Rand, "T", "T", "T", "U")
	}
	switch d.Kind {
	case api.KBool:
		d.N = g.IntN(2)
	case api.KInt:
		d.N = g.number()
	case api.KFloat:
		d.F = g.bits()
	case api.KText:
		d.S = g.text()
	case api.KList:
		if d.Ref.Object = g.object(); d.Ref.Object > 0 {
			d.Ref.Cap = g.IntN(4)
			d.Ref.Len = g.IntN(d.Ref.Cap + 1)
			d.Ref.From = g.IntN(3)
		}
	case api.KMap, api.KFunc:
		d.Ref.Object = g.object()
	case api.KPointer:
		if d.Ref.Object = g.object(); d.Ref.Object > 0 {
			for range g.IntN(4) {
				d.Ref.Path = append(d.Ref.Path, oneOf(g.Rand, 0, 0, 1, 29))
			}
		}
	case api.KStruct:
		for n := g.IntN(4); deep > 0 && n > 0; n-- {
			d.Items = append(d.Items, g.right(deep-1))
		}
	}
	return d
}

// comparable is a right datum without a list, map or func.
func (g grower) comparable(deep int) api.Datum {
	d := g.right(0, api.KNil, api.KBool, api.KInt, api.KFloat, api.KText, api.KPointer, api.KStruct, api.KStruct)
	if d.Kind == api.KStruct && deep > 0 {
		for range g.IntN(4) {
			d.Items = append(d.Items, g.comparable(deep-1))
		}
	}
	return d
}

// spot is a datum within d, or d itself.
func (g grower) spot(d *api.Datum) *api.Datum {
	for len(d.Items) > 0 && g.IntN(4) > 0 {
		d = &d.Items[g.IntN(len(d.Items))]
	}
	return d
}

// near is d in other memory, with a few things in it made anew, or turned round, or none.
func (g grower) near(d api.Datum) api.Datum {
	out := apart(d)
	for range g.IntN(3) {
		at := g.spot(&out)
		switch g.IntN(6) {
		case 0:
			*at = g.right(2)
		case 1:
			if at.Kind >= api.KNil && at.Kind <= api.KPointer {
				*at = g.right(2, at.Kind)
			}
		case 2:
			if at.Kind == api.KFloat {
				at.F ^= minusZero * uint64(g.IntN(2))
			}
		case 3:
			if at.Kind == api.KStruct && len(at.Items) > 0 {
				at.Items = at.Items[:len(at.Items)-1]
			}
		case 4:
			if at.Kind == api.KStruct {
				at.Items = append(at.Items, g.right(1))
			}
		case 5:
			if len(at.Items) > 1 {
				at.Items[0], at.Items[1] = at.Items[1], at.Items[0]
			}
		}
		if !rightNaN(at) {
			at.F = oneNaN
		}
	}
	return out
}

func rightNaN(d *api.Datum) bool {
	return d.Kind != api.KFloat || d.F == oneNaN || !math.IsNaN(math.Float64frombits(d.F))
}

// odd is d with something in it that is at an edge, or beyond one, or that its kind has not.
func (g grower) odd(d api.Datum) api.Datum {
	out := apart(d)
	for range 1 + g.IntN(2) {
		at := g.spot(&out)
		small := oneOf(g.Rand, 0, 0, 1, 2, -1, 1048575, 1048576, 1048577, math.MaxInt64, math.MinInt64)
		switch g.IntN(12) {
		case 0:
			at.Kind = g.IntN(14) - 2
		case 1:
			at.Type = oneOf(g.Rand, "", "T", "int", "bool", "float", "text", "list", "map", "func", "any", "nil", "struct", "pointer", "1a", "a b", "*T", strings.Repeat("x", 39+g.IntN(3)))
		case 2:
			at.N = small
		case 3:
			at.F = oneOf(g.Rand, append(otherNaNs, oneNaN, 0, 1, minusZero)...)
		case 4:
			at.S = oneOf(g.Rand, "", "a", strings.Repeat("a", 65535+g.IntN(3)))
		case 5:
			at.Ref.Object = oneOf(g.Rand, -1, 0, 1, api.MaxObjects, api.MaxObjects+1)
		case 6:
			at.Ref.From = small
		case 7:
			at.Ref.Len = small
		case 8:
			at.Ref.Cap = small
		case 9:
			at.Ref.Path = make([]int, oneOf(g.Rand, 0, 1, 2, 99, 100, 101))
			if n := len(at.Ref.Path); n > 0 {
				at.Ref.Path[g.IntN(n)] = oneOf(g.Rand, 0, 1, 29, 30, -1, 256)
			}
		case 10:
			at.Items = times(oneOf(g.Rand, 0, 1, 2, 29, 30, 31), g.right(1)).Items
		case 11:
			*at = within(oneOf(g.Rand, 1, 50, 97, 98, 99, 100), *at)
		}
	}
	return out
}

// any is a datum of any sort.
func (g grower) any() api.Datum {
	d := g.right(3)
	if g.IntN(3) == 0 {
		return g.odd(d)
	}
	return d
}
