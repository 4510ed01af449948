package number_test

import (
	"strings"
	"testing"

	"guise/api"
	"guise/lex"
	"guise/number"
)

func TestShow(t *testing.T) {
	for _, c := range []struct {
		a    api.Datum
		want string
	}{
		{boolean(0), "false"}, {boolean(1), "true"}, {boolean(2), "true"}, {boolean(-1), "true"}, {boolean(1 << 32), "true"}, {boolean(least), "true"},
		{integer(0), "0"}, {integer(-5), "-5"}, {integer(100), "100"}, {integer(most), "9223372036854775807"}, {integer(least), "-9223372036854775808"},
		{bits(0), "0x0000000000000000"}, {bits(minusZero), "0x8000000000000000"}, {bits(smallest), "0x0000000000000001"}, {float(1.5), "0x3ff8000000000000"},
		{bits(0x0123456789ABCDEF), "0x0123456789abcdef"}, {bits(0xFEDCBA9876543210), "0xfedcba9876543210"}, {bits(greatest), "0x7fefffffffffffff"},
		{bits(infinity), "0x7ff0000000000000"}, {bits(minusInf), "0xfff0000000000000"}, {bits(oneNaN), "nan"},
		{text(""), `""`}, {text("a"), `"a"`}, {text("a\"\\\n\t\x00\xffé"), `"a\"\\\n\t\x00\xff\xc3\xa9"`}, {text("nil"), `"nil"`},
	} {
		wantShow(t, c.a, c.want)
		wantShow(t, messy(c.a), c.want)
		for _, name := range []string{"T", "", "Int", "int ", "list", "nil", "*T", "a\"b", "\xff"} {
			wantShow(t, typed(name, messy(c.a)), name+"("+c.want+")")
		}
		// Another kind's own name is not its own.
		for _, name := range []string{"bool", "int", "float", "text"} {
			if name != c.a.Type {
				wantShow(t, typed(name, messy(c.a)), name+"("+c.want+")")
			}
		}
	}
	for _, b := range otherNaNs {
		wantShow(t, bits(b), "nan")
		wantShow(t, typed("F", bits(b)), "F(nan)")
	}
	for i := range 256 {
		s := string([]byte{byte(i), byte(i)})
		wantShow(t, text(s), lex.Quote(s))
	}
	long := strings.Repeat("a", 200000)
	wantShow(t, text(long), `"`+long+`"`)
}

// Of nil `nil`, of other kinds, there are such or not, nothing; whatever their Type.
func TestShowOfOtherKinds(t *testing.T) {
	for kind := -3; kind <= 13; kind++ {
		for _, name := range []string{"", "T", "nil", "int", "list", "map", "func", "struct", "pointer"} {
			a := kinded(kind, name)
			switch {
			case kind == api.KNil:
				wantShow(t, a, "nil")
			case kind < api.KNil || kind > api.KText:
				wantShow(t, a, "")
			}
		}
	}
}

func TestName(t *testing.T) {
	for _, name := range []string{"", "T", "*T", "int", "nil", "a b", "\xff"} {
		for kind := -3; kind <= 13; kind++ {
			want := name
			switch kind {
			case api.KNil:
				want = "nil"
			case api.KPointer:
				want = "*" + name
			}
			wantName(t, api.Datum{Kind: kind, Type: name}, want)
			wantName(t, kinded(kind, name), want)
		}
	}
	if got := number.Name(api.Datum{}); got != "nil" {
		t.Errorf("N5: Name of the zero datum: %q", got)
	}
}
