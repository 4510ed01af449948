package number_test

import (
	"math"
	"slices"
	"strconv"
	"strings"
	"testing"

	"guise/api"
)

const ordering = "< <= > >="

// has: which kind has which operation with two data, and with one.
var has = map[int]string{api.KInt: "+ - * / % & | ^ << >> " + ordering, api.KFloat: "+ - * / " + ordering, api.KText: "+ " + ordering}

var hasAlone = map[int]string{api.KInt: "- ^", api.KFloat: "-", api.KBool: "!"}

func among(op, list string) bool { return slices.Contains(strings.Fields(list), op) }

// Each operation of each kind, there is one or not: which has it, and the fault's words where it has not.
func TestEveryOperationOfEveryKind(t *testing.T) {
	for kind := -3; kind <= 13; kind++ {
		for _, name := range []string{"T", "int", "", "text", "nil"} {
			a := kinded(kind, name)
			told := name
			if kind == api.KNil {
				told = "nil"
			} else if kind == api.KPointer {
				told = "*" + name
			}
			wantName(t, a, told)
			for _, op := range operations {
				fault := bad("operand", op+" "+told)
				if got := unary(t, op, a); (got != fault) != among(op, hasAlone[kind]) {
					t.Errorf("N1: %q of the kind %d: %s", op, kind, got)
				}
				fault = bad("operand", op+" "+told+" "+told)
				if got := binary(t, op, a, a); (got != fault) != among(op, has[kind]) {
					t.Errorf("N2: %q of the kind %d: %s", op, kind, got)
				}
			}
		}
	}
}

// Two that are not of one type have no operation, whatever their kinds have.
func TestUnlikeTypes(t *testing.T) {
	pairs := [][2]api.Datum{
		{integer(6), typed("T", integer(3))},
		{typed("T", integer(6)), integer(3)},
		{typed("T", integer(6)), typed("U", integer(3))},
		{typed("T", integer(6)), typed("t", integer(3))},
		{typed("T", integer(6)), typed("T ", integer(3))},
		{typed("", integer(6)), integer(3)},
		{float(6), typed("T", float(3))},
		{text("6"), typed("T", text("3"))},
		{integer(6), float(3)},
		{float(6), integer(3)},
		{integer(6), text("3")},
		{text("6"), integer(3)},
		{text("6"), float(3)},
		{integer(6), boolean(1)},
		{boolean(1), integer(6)},
		{integer(6), {}},
		{{}, integer(6)},
		{typed("T", integer(6)), typed("T", float(3))},
		{typed("T", float(6)), typed("T", text("3"))},
		{typed("T", text("6")), typed("T", integer(3))},
		{typed("T", integer(6)), {Kind: api.KStruct, Type: "T"}},
		{{Kind: api.KPointer, Type: "T"}, typed("T", integer(6))},
		{{Kind: api.KPointer, Type: "T"}, {Kind: api.KStruct, Type: "T"}},
		{{Kind: api.KNil, Type: "int"}, integer(6)},
		{{Kind: api.KNil, Type: "T"}, {Kind: api.KNil, Type: "U"}},
		{{Kind: 10, Type: "int"}, integer(6)},
		{integer(6), {Kind: -1, Type: "int"}},
	}
	told := func(d api.Datum) string {
		switch d.Kind {
		case api.KNil:
			return "nil"
		case api.KPointer:
			return "*" + d.Type
		}
		return d.Type
	}
	for _, p := range pairs {
		for _, op := range operations {
			want := bad("operand", op+" "+told(p[0])+" "+told(p[1]))
			wantBinary(t, op, p[0], p[1], want)
			wantBinary(t, op, messy(p[0]), messy(p[1]), want)
		}
	}
	// The fault of unlike types is the first: neither by 0, nor by less than 0, nor too long is told.
	wantBinary(t, "/", integer(1), typed("T", integer(0)), bad("operand", "/ int T"))
	wantBinary(t, "<<", integer(1), typed("T", integer(-1)), bad("operand", "<< int T"))
	long := strings.Repeat("a", api.MaxText)
	wantBinary(t, "+", text(long), typed("T", text(long)), bad("operand", "+ text T"))
}

func TestUnary(t *testing.T) {
	for _, n := range []int{0, 1, -1, 7, -7, 1 << 32, most, -most, least, 0x0F0F0F0F0F0F0F0F} {
		wantUnary(t, "-", integer(n), good(integer(0-n)))
		wantUnary(t, "^", integer(n), good(integer(-1-n)))
		wantUnary(t, "-", typed("T", messy(integer(n))), good(typed("T", integer(0-n))))
		wantUnary(t, "^", typed("T", messy(integer(n))), good(typed("T", integer(-1-n))))
	}
	for _, b := range []uint64{0, minusZero, smallest, normal, greatest, infinity, minusInf, 0x3FF0000000000000, 0xBFF8000000000000} {
		wantUnary(t, "-", bits(b), good(bits(b^(1<<63))))
		wantUnary(t, "-", typed("text", messy(bits(b))), good(typed("text", bits(b^(1<<63)))))
	}
	for _, b := range append(otherNaNs, oneNaN, oneNaN|1<<63) {
		wantUnary(t, "-", bits(b), good(bits(oneNaN)))
	}
	for _, n := range []int{1, 2, -1, 256, 1 << 32, least, most} {
		wantUnary(t, "!", boolean(n), good(boolean(0)))
		wantUnary(t, "!", typed("T", messy(boolean(n))), good(typed("T", boolean(0))))
	}
	wantUnary(t, "!", boolean(0), good(boolean(1)))
	wantUnary(t, "!", typed("T", messy(boolean(0))), good(typed("T", boolean(1))))
	wantUnary(t, "!", integer(0), bad("operand", "! int"))
	wantUnary(t, "^", boolean(0), bad("operand", "^ bool"))
	wantUnary(t, "^", float(1), bad("operand", "^ float"))
	wantUnary(t, "+", integer(1), bad("operand", "+ int"))
	wantUnary(t, "-", api.Datum{Kind: api.KPointer, Type: "T"}, bad("operand", "- *T"))
	wantUnary(t, "*", api.Datum{Kind: api.KPointer, Type: "T"}, bad("operand", "* *T"))
	wantUnary(t, "", api.Datum{Kind: api.KStruct}, bad("operand", " "))
}

func TestInts(t *testing.T) {
	for _, c := range []struct {
		a    int
		op   string
		b    int
		want int
	}{
		{2, "+", 3, 5}, {most, "+", 1, least}, {least, "+", -1, most}, {least, "+", least, 0}, {most, "+", most, -2}, {-5, "+", 5, 0},
		{2, "-", 3, -1}, {least, "-", 1, most}, {0, "-", least, least}, {most, "-", -1, least}, {-1, "-", least, most},
		{6, "*", -7, -42}, {most, "*", 2, -2}, {least, "*", -1, least}, {least, "*", 2, 0}, {1 << 32, "*", 1 << 32, 0}, {1<<32 + 1, "*", 1<<32 + 1, 1<<33 + 1}, {most, "*", most, 1},
		{7, "/", 2, 3}, {-7, "/", 2, -3}, {7, "/", -2, -3}, {-7, "/", -2, 3}, {least, "/", -1, least}, {least, "/", 1, least}, {least, "/", least, 1}, {most, "/", least, 0}, {0, "/", -5, 0}, {least, "/", 2, -1 << 62}, {most, "/", -1, -most}, {1, "/", 2, 0}, {-1, "/", 2, 0},
		{7, "%", 2, 1}, {-7, "%", 2, -1}, {7, "%", -2, 1}, {-7, "%", -2, -1}, {least, "%", -1, 0}, {5, "%", -1, 0}, {least, "%", most, -1}, {most, "%", least, most}, {0, "%", 3, 0}, {-6, "%", 3, 0}, {least, "%", 10, -8},
		{6, "&", 3, 2}, {-1, "&", least, least}, {most, "&", least, 0}, {-2, "&", 7, 6},
		{6, "|", 3, 7}, {most, "|", least, -1}, {0, "|", 0, 0}, {-8, "|", 1, -7},
		{6, "^", 3, 5}, {-1, "^", 0, -1}, {-1, "^", 5, -6}, {most, "^", least, -1}, {least, "^", least, 0},
		{5, "<<", 0, 5}, {5, "<<", 1, 10}, {1, "<<", 62, 1 << 62}, {1, "<<", 63, least}, {2, "<<", 63, 0}, {3, "<<", 63, least}, {-1, "<<", 63, least}, {1, "<<", 64, 0}, {-1, "<<", 64, 0}, {-1, "<<", 65, 0}, {1, "<<", 128, 0}, {1, "<<", 1 << 32, 0}, {-1, "<<", 1<<32 + 1, 0}, {1, "<<", most, 0}, {least, "<<", 0, least}, {least, "<<", 1, 0},
		{5, ">>", 0, 5}, {5, ">>", 1, 2}, {-5, ">>", 1, -3}, {most, ">>", 62, 1}, {most, ">>", 63, 0}, {least, ">>", 63, -1}, {least, ">>", 62, -2}, {-1, ">>", 63, -1}, {5, ">>", 64, 0}, {-5, ">>", 64, -1}, {most, ">>", 65, 0}, {least, ">>", 65, -1}, {-1, ">>", 128, -1}, {1, ">>", 1 << 32, 0}, {-1, ">>", 1<<32 + 1, -1}, {-1, ">>", most, -1}, {most, ">>", most, 0}, {least, ">>", 0, least},
	} {
		a, b := integer(c.a), integer(c.b)
		wantBinary(t, c.op, a, b, good(integer(c.want)))
		wantBinary(t, c.op, typed("T", messy(a)), typed("T", messy(b)), good(typed("T", integer(c.want))))
	}
}

func TestFaultsOfInts(t *testing.T) {
	for _, a := range []int{0, 1, -1, 7, most, least} {
		for _, op := range []string{"/", "%"} {
			wantBinary(t, op, integer(a), integer(0), bad("divide", ""))
			wantBinary(t, op, typed("T", messy(integer(a))), typed("T", messy(integer(0))), bad("divide", ""))
		}
		for _, op := range []string{"<<", ">>"} {
			for _, b := range []int{-1, -2, -63, -64, -65, -1 << 32, -most, least} {
				wantBinary(t, op, integer(a), integer(b), bad("count", strconv.Itoa(b)))
				wantBinary(t, op, typed("T", messy(integer(a))), typed("T", messy(integer(b))), bad("count", strconv.Itoa(b)))
			}
		}
	}
	wantBinary(t, ">>", integer(1), integer(least), bad("count", "-9223372036854775808"))
}

func TestFloats(t *testing.T) {
	const half, one, two, minusOne = 0x3FE0000000000000, 0x3FF0000000000000, 0x4000000000000000, 0xBFF0000000000000
	for _, c := range []struct {
		a    uint64
		op   string
		b    uint64
		want uint64
	}{
		{one, "+", one, two}, {one, "+", minusOne, 0}, {0, "+", minusZero, 0}, {minusZero, "+", minusZero, minusZero}, {minusZero, "+", 0, 0},
		{greatest, "+", greatest, infinity}, {infinity, "+", one, infinity}, {infinity, "+", minusInf, oneNaN}, {minusInf, "+", minusInf, minusInf},
		{0x4340000000000000, "+", one, 0x4340000000000000}, {0x4340000000000000, "+", 0x4008000000000000, 0x4340000000000002}, // 2^53 and 1, and 3: ties to even
		{smallest, "+", smallest, 2}, {0x000FFFFFFFFFFFFF, "+", smallest, normal},
		{0x3FB999999999999A, "+", 0x3FC999999999999A, 0x3FD3333333333334}, // 0.1 and 0.2
		{one, "-", one, 0}, {0, "-", 0, 0}, {minusZero, "-", 0, minusZero}, {minusZero, "-", minusZero, 0}, {0, "-", minusZero, 0},
		{infinity, "-", infinity, oneNaN}, {infinity, "-", minusInf, infinity}, {one, "-", two, minusOne}, {normal, "-", smallest, 0x000FFFFFFFFFFFFF},
		{two, "*", half, one}, {minusZero, "*", one, minusZero}, {minusZero, "*", minusOne, 0}, {infinity, "*", 0, oneNaN}, {minusZero, "*", infinity, oneNaN},
		{infinity, "*", minusOne, minusInf}, {greatest, "*", two, infinity}, {smallest, "*", half, 0}, {smallest | minusZero, "*", half, minusZero}, {3, "*", half, 2},
		{0x3FB999999999999A, "*", 0x3FB999999999999A, 0x3F847AE147AE147C},
		{one, "/", two, half}, {one, "/", 0, infinity}, {one, "/", minusZero, minusInf}, {minusOne, "/", 0, minusInf}, {0, "/", 0, oneNaN}, {minusZero, "/", 0, oneNaN},
		{infinity, "/", infinity, oneNaN}, {infinity, "/", 0, infinity}, {one, "/", infinity, 0}, {minusOne, "/", infinity, minusZero}, {0, "/", minusOne, minusZero},
		{one, "/", 0x4008000000000000, 0x3FD5555555555555}, {smallest, "/", two, 0}, {greatest, "/", half, infinity}, {one, "/", smallest, infinity},
	} {
		wantBinary(t, c.op, bits(c.a), bits(c.b), good(bits(c.want)))
		wantBinary(t, c.op, typed("F", messy(bits(c.a))), typed("F", messy(bits(c.b))), good(typed("F", bits(c.want))))
	}
	for _, b := range append(otherNaNs, oneNaN) {
		for _, op := range []string{"+", "-", "*", "/"} {
			for _, x := range []uint64{0, minusZero, one, infinity, minusInf, greatest, b} {
				wantBinary(t, op, bits(b), bits(x), good(bits(oneNaN)))
				wantBinary(t, op, bits(x), bits(b), good(bits(oneNaN)))
			}
		}
	}
}

func TestTextsTogether(t *testing.T) {
	for _, c := range [][3]string{{"a", "b", "ab"}, {"", "", ""}, {"a", "", "a"}, {"", "a", "a"}, {"\xff\x00", "é", "\xff\x00é"}, {"ab", "ab", "abab"}} {
		wantBinary(t, "+", text(c[0]), text(c[1]), good(text(c[2])))
		wantBinary(t, "+", typed("T", messy(text(c[0]))), typed("T", messy(text(c[1]))), good(typed("T", text(c[2]))))
	}
	for _, split := range []int{0, 1, 2, 1000, 32768, 65534, 65535, 65536} {
		a, b := text(strings.Repeat("a", split)), text(strings.Repeat("b", api.MaxText-split))
		wantBinary(t, "+", a, b, good(text(a.S+b.S)))
		wantBinary(t, "+", typed("T", a), typed("T", b), good(typed("T", text(a.S+b.S))))
		b.S += "b"
		wantBinary(t, "+", a, b, bad("count", "65537"))
		wantBinary(t, "+", b, a, bad("count", "65537"))
		wantBinary(t, "+", typed("T", a), typed("T", b), bad("count", "65537"))
	}
	long := text(strings.Repeat("a", 1000000))
	wantBinary(t, "+", long, text(""), bad("count", "1000000"))
	wantBinary(t, "+", text("b"), long, bad("count", "1000001"))
	wantBinary(t, "+", long, long, bad("count", "2000000"))
	wantBinary(t, "<", long, long, good(boolean(0)))
	wantBinary(t, ">", typed("T", text(long.S+"b")), typed("T", long), good(boolean(1)))
}

// ordered asks all four comparisons of two, both ways: sign is -1, 0 or 1, and 2 where none is so.
func ordered(t *testing.T, a, b api.Datum, sign int) {
	t.Helper()
	so := func(is bool) string {
		if is {
			return good(boolean(1))
		}
		return good(boolean(0))
	}
	for range 2 {
		wantBinary(t, "<", a, b, so(sign == -1))
		wantBinary(t, "<=", a, b, so(sign == -1 || sign == 0))
		wantBinary(t, ">", a, b, so(sign == 1))
		wantBinary(t, ">=", a, b, so(sign == 1 || sign == 0))
		a, b = b, a
		if sign != 2 {
			sign = -sign
		}
	}
}

// Of each row one that stands further on is above those ahead of it.
func TestComparisons(t *testing.T) {
	rows := [][]api.Datum{nil, nil, nil}
	for _, n := range []int{least, least + 1, -1 << 53, -1<<53 + 1, -1 << 32, -2, -1, 0, 1, 2, 1 << 32, 1 << 53, 1<<53 + 1, most - 1, most} {
		rows[0] = append(rows[0], integer(n))
	}
	for _, b := range []uint64{minusInf, greatest | 1<<63, 0xBFF0000000000000, normal | 1<<63, smallest | 1<<63, 0, smallest, normal - 1, normal, 0x3FF0000000000000, 0x3FF0000000000001, greatest, infinity} {
		rows[1] = append(rows[1], bits(b))
	}
	for _, s := range []string{"", "\x00", "\x00\x00", "\x00a", "B", "a", "a\x00", "aa", "ab", "abc", "b", "z", "~", "\x7f", "\x80", "é", "\xff", "\xff\x00", "\xff\xff"} {
		rows[2] = append(rows[2], text(s))
	}
	for _, row := range rows {
		for i, a := range row {
			for j, b := range row {
				sign := 0
				if i < j {
					sign = -1
				} else if i > j {
					sign = 1
				}
				ordered(t, a, b, sign)
				ordered(t, typed("T", messy(a)), typed("T", messy(b)), sign)
			}
		}
	}
	ordered(t, bits(0), bits(minusZero), 0)
	for _, b := range append(otherNaNs, oneNaN) {
		for _, x := range rows[1] {
			ordered(t, bits(b), x, 2)
		}
		ordered(t, bits(b), bits(oneNaN), 2)
		ordered(t, bits(b), bits(b), 2)
		ordered(t, bits(b), bits(minusZero), 2)
	}
	ordered(t, float(math.Pi), float(math.E), 1)
}
