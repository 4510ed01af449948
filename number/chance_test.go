package number_test

import (
	"testing"

	"guise/api"
	"guise/number"
)

// asTheModel holds all that is told of two data against the model.
func asTheModel(t *testing.T, op string, kind int, name string, a, b api.Datum) {
	t.Helper()
	wantUnary(t, op, a, modelUnary(op, a))
	wantBinary(t, op, a, b, modelBinary(op, a, b))
	wantConvert(t, kind, name, a, modelConvert(kind, name, a))
	wantShow(t, a, modelShow(a))
	wantName(t, a, modelName(a))
}

func literalsAsTheModel(t *testing.T, s string) {
	t.Helper()
	wantInt(t, s, modelInt(s))
	wantFloat(t, s, modelFloat(s))
}

func TestByChance(t *testing.T) {
	g := growing(1)
	for range 60000 {
		a := g.datum()
		asTheModel(t, g.operation(), g.kind(), g.name(), a, g.other(a))
	}
	for range 40000 {
		literalsAsTheModel(t, g.literal())
	}
}

// Each operation of each two ints, and floats, at an edge.
func TestEdgesAsTheModel(t *testing.T) {
	ints := []int{least, least + 1, -1 << 32, -65, -64, -63, -2, -1, 0, 1, 2, 3, 10, 62, 63, 64, 65, 127, 128, 1 << 32, 1<<53 + 1, most - 1, most}
	floats := append([]uint64{0, smallest, 2, normal - 1, normal, normal + 1, 0x3FE0000000000000, 0x3FEFFFFFFFFFFFFF, 0x3FF0000000000000, 0x3FF0000000000001, 0x4000000000000000,
		0x4008000000000000, 0x3FB999999999999A, 0x433FFFFFFFFFFFFF, 0x4340000000000000, 0x43DFFFFFFFFFFFFF, 0x43E0000000000000, 0x43F0000000000000, greatest - 1, greatest, infinity, oneNaN}, otherNaNs...)
	for _, b := range floats {
		floats = append(floats, b^1<<63)
	}
	for _, op := range operations[:16] {
		for _, a := range ints {
			for _, b := range ints {
				asTheModel(t, op, api.KFloat, "F", integer(a), integer(b))
			}
		}
		for _, a := range floats {
			for _, b := range floats {
				asTheModel(t, op, api.KInt, "T", bits(a), bits(b))
			}
		}
	}
}

// What is answered hangs on what is asked alone: the same again, whatever was asked between.
func TestTheSameAgain(t *testing.T) {
	g := growing(2)
	for range 3000 {
		a := g.datum()
		b, op, s := g.other(a), g.operation(), g.literal()
		first := binary(t, op, a, b) + unary(t, op, a) + converted(t, a.Kind, "T", a) + intRead(t, s) + floatRead(t, s) + number.Show(a)
		c := g.datum()
		binary(t, g.operation(), c, g.other(c))
		again := binary(t, op, a, b) + unary(t, op, a) + converted(t, a.Kind, "T", a) + intRead(t, s) + floatRead(t, s) + number.Show(a)
		if first != again {
			t.Fatalf("P4: %s, and again %s", first, again)
		}
	}
}

func FuzzNumber(f *testing.F) {
	f.Add("+", 2, 2, "int", "int", 1, 2, uint64(0), uint64(0), "", "")
	f.Add("/", 3, 3, "float", "float", 0, 0, uint64(0x3FF0000000000000), uint64(0), "1.5", "0.1")
	f.Add("<", 4, 4, "T", "text", 0, 0, uint64(0), uint64(0), "ab", "9223372036854775808")
	f.Add(">>", 2, 2, "T", "T", -1, 64, uint64(oneNaN), uint64(minusZero), "a\"", "\xff")
	f.Fuzz(func(t *testing.T, op string, kind, other int, name, too string, n, m int, x, y uint64, s, u string) {
		a := messy(api.Datum{Kind: kind, Type: name, N: n, F: x, S: s})
		b := messy(api.Datum{Kind: other, Type: too, N: m, F: y, S: u})
		asTheModel(t, op, other, too, a, b)
		b.Kind, b.Type = kind, name
		asTheModel(t, op, kind, too, a, b)
		for _, one := range operations[:16] {
			asTheModel(t, one, api.KInt, too, a, b)
			asTheModel(t, one, api.KFloat, too, b, a)
		}
		literalsAsTheModel(t, s)
		literalsAsTheModel(t, u)
	})
}
