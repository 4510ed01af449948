package number_test

import (
	"math"
	"testing"

	"guise/api"
)

// Of each pair of kinds, there are such or not: what can be made of what, and the fault's words where it can't.
func TestEveryKindOfEveryKind(t *testing.T) {
	for kind := -3; kind <= 13; kind++ {
		for of := -3; of <= 13; of++ {
			for _, name := range []string{"T", "int", "", "*T", "a b"} {
				a := kinded(of, "U")
				told := "U"
				if of == api.KNil {
					told = "nil"
				} else if of == api.KPointer {
					told = "*U"
				}
				want := bad("operand", name+" "+told)
				switch {
				case kind == of && kind >= api.KBool && kind <= api.KFunc:
					want = good(kept(name, a))
				case kind == api.KInt && of == api.KFloat:
					want = good(typed(name, integer(3)))
				case kind == api.KFloat && of == api.KInt:
					want = good(typed(name, float(3)))
				}
				wantConvert(t, kind, name, a, want)
			}
		}
	}
	for _, kind := range []int{math.MinInt, math.MaxInt} {
		wantConvert(t, kind, "T", integer(1), bad("operand", "T int"))
		wantConvert(t, kind, "T", api.Datum{Kind: kind, Type: "U"}, bad("operand", "T U"))
	}
}

// kept is a datum with another Type, and of all else what its kind has.
func kept(name string, a api.Datum) api.Datum {
	out := api.Datum{Kind: a.Kind, Type: name}
	switch kindNames[a.Kind] {
	case "bool", "int":
		out.N = a.N
	case "float":
		out.F = a.F
	case "text":
		out.S = a.S
	case "list", "map", "func":
		out.Ref = a.Ref
	}
	return out
}

func TestKeptByConvert(t *testing.T) {
	for _, n := range []int{0, 1, 2, -1, 256, 1 << 32, least, most} {
		wantConvert(t, api.KBool, "T", boolean(n), good(typed("T", boolean(n))))
		wantConvert(t, api.KBool, "bool", typed("T", messy(boolean(n))), good(boolean(n)))
		wantConvert(t, api.KInt, "T", messy(integer(n)), good(typed("T", integer(n))))
	}
	for _, b := range []uint64{0, minusZero, smallest, greatest, infinity, minusInf, oneNaN, 0x3FF8000000000000} {
		wantConvert(t, api.KFloat, "F", messy(bits(b)), good(typed("F", bits(b))))
	}
	for _, b := range otherNaNs {
		wantConvert(t, api.KFloat, "F", bits(b), good(typed("F", bits(oneNaN))))
		wantConvert(t, api.KFloat, "float", bits(b), good(bits(oneNaN)))
	}
	for _, s := range []string{"", "a", "\xff\x00", string(make([]byte, api.MaxText+1))} {
		wantConvert(t, api.KText, "T", messy(text(s)), good(typed("T", text(s))))
	}
	for _, r := range []api.Ref{{}, {Object: 1}, {Object: -1, From: -2, Len: 5, Cap: 3}, {From: 1, Len: 2, Cap: 3}, {Path: []int{}}, {Object: 9, Path: []int{0, -1, 1 << 40}}} {
		for kind := api.KList; kind <= api.KFunc; kind++ {
			a := messy(api.Datum{Kind: kind, Type: kindNames[kind]})
			a.Ref = r
			wantConvert(t, kind, "T", a, good(api.Datum{Kind: kind, Type: "T", Ref: r}))
		}
	}
	// The same type again, too, leaves nothing but what the kind has.
	wantConvert(t, api.KInt, "int", messy(integer(5)), good(integer(5)))
	wantConvert(t, api.KInt, "", messy(integer(5)), good(typed("", integer(5))))
}

func TestIntOfFloat(t *testing.T) {
	const two63 = 0x43E0000000000000 // 2^63
	for _, c := range []struct {
		b    uint64
		want int
	}{
		{0, 0}, {minusZero, 0}, {smallest, 0}, {smallest | 1<<63, 0}, {math.Float64bits(0.5), 0}, {math.Float64bits(-0.5), 0},
		{0x3FEFFFFFFFFFFFFF, 0}, {0xBFEFFFFFFFFFFFFF, 0}, {math.Float64bits(1.5), 1}, {math.Float64bits(-1.5), -1}, {math.Float64bits(2.5), 2}, {math.Float64bits(-2.999), -2},
		{math.Float64bits(4503599627370495.5), 4503599627370495}, {math.Float64bits(-4503599627370495.5), -4503599627370495},
		{math.Float64bits(1 << 53), 1 << 53}, {math.Float64bits(1 << 62), 1 << 62}, {math.Float64bits(-1 << 62), -1 << 62},
		{two63 - 1, most - 1023}, {two63, least}, {two63 + 1, least}, {two63 | 1<<63, least}, {(two63 - 1) | 1<<63, least + 1024}, {(two63 + 1) | 1<<63, least},
		{math.Float64bits(1 << 64), least}, {math.Float64bits(1<<64 + 1<<12), least}, {math.Float64bits(-1 << 64), least}, {greatest, least}, {greatest | 1<<63, least},
		{infinity, least}, {minusInf, least}, {oneNaN, least},
	} {
		wantConvert(t, api.KInt, "int", bits(c.b), good(integer(c.want)))
		wantConvert(t, api.KInt, "T", typed("F", messy(bits(c.b))), good(typed("T", integer(c.want))))
	}
	for _, b := range otherNaNs {
		wantConvert(t, api.KInt, "int", bits(b), good(integer(least)))
	}
}

func TestFloatOfInt(t *testing.T) {
	for _, c := range []struct {
		n    int
		want uint64
	}{
		{0, 0}, {1, 0x3FF0000000000000}, {-1, 0xBFF0000000000000}, {3, 0x4008000000000000}, {most, 0x43E0000000000000}, {least, 0xC3E0000000000000},
		{1<<53 - 1, 0x433FFFFFFFFFFFFF}, {1 << 53, 0x4340000000000000}, {1<<53 + 1, 0x4340000000000000}, {1<<53 + 2, 0x4340000000000001}, {1<<53 + 3, 0x4340000000000002},
		{-1<<53 - 1, 0xC340000000000000}, {-1<<53 - 3, 0xC340000000000002},
		{1<<54 + 2, 0x4350000000000000}, {1<<54 + 3, 0x4350000000000001}, {1<<54 + 6, 0x4350000000000002},
		{most - 511, 0x43E0000000000000}, {most - 512, 0x43DFFFFFFFFFFFFF}, {most - 1023, 0x43DFFFFFFFFFFFFF}, {least + 512, 0xC3E0000000000000}, {least + 513, 0xC3DFFFFFFFFFFFFF},
	} {
		wantConvert(t, api.KFloat, "float", integer(c.n), good(bits(c.want)))
		wantConvert(t, api.KFloat, "F", typed("T", messy(integer(c.n))), good(typed("F", bits(c.want))))
	}
}
