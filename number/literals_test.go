package number_test

import (
	"strconv"
	"strings"
	"testing"
)

func TestInt(t *testing.T) {
	for _, s := range []string{"0", "1", "9", "10", "42", "100000", "999999999999999999", "1000000000000000000", "9223372036854775799", "9223372036854775806", "9223372036854775807"} {
		n, err := strconv.Atoi(s)
		if err != nil {
			t.Fatal(err)
		}
		wantInt(t, s, good(integer(n)))
	}
	for _, s := range []string{"", "00", "01", "007", "0000000000000000001", "9223372036854775808", "9223372036854775817", "9999999999999999999",
		"10000000000000000000", "18446744073709551616", "18446744073709551617", "99999999999999999999", "00000000000000000000", "09223372036854775807",
		"-1", "+1", "-0", " 1", "1 ", "1.0", "1.", "1_000", "1e3", "0x1", "1a", "a1", "a", "1\x00", "/", ":", "1/", "1:", "/1", ":1", "١", "１", "\xff", "nil", "1\n"} {
		wantInt(t, s, "none")
	}
	wantInt(t, strings.Repeat("1", 1000000), "none")
	wantInt(t, strings.Repeat("0", 1000000), "none")
}

// Each byte by itself, ahead of a digit, and behind it.
func TestEveryByteInALiteral(t *testing.T) {
	for i := range 256 {
		s := string([]byte{byte(i)})
		digit := i >= '0' && i <= '9'
		want, ahead, behind := "none", "none", "none"
		if digit {
			want, behind = good(integer(i-'0')), good(integer(50+i-'0'))
		}
		if digit && i != '0' {
			ahead = good(integer((i-'0')*10 + 5))
		}
		wantInt(t, s, want)
		wantInt(t, s+"5", ahead)
		wantInt(t, "5"+s, behind)
		for _, f := range []string{s + ".5", "5." + s, "5" + s + ".5", s + "5.5", "5.5" + s, "5." + s + "5", "5" + s + "5"} {
			n, err := strconv.ParseFloat(f, 64)
			if digit && err != nil {
				t.Fatal(err)
			}
			switch {
			case digit && strings.Contains(f, ".") && (i != '0' || f[0] != '0' || f[1] == '.'):
				wantFloat(t, f, good(float(n)))
			case s == "." && f == "5.5":
				wantFloat(t, f, good(float(n)))
			default:
				wantFloat(t, f, "none")
			}
		}
	}
}

func TestFloat(t *testing.T) {
	for s, want := range map[string]uint64{
		"0.0": 0, "0.5": 0x3FE0000000000000, "1.5": 0x3FF8000000000000, "0.1": 0x3FB999999999999A, "0.3": 0x3FD3333333333333, "10.0": 0x4024000000000000, "3.14159265358979": 0x400921FB54442D11,
		"0.00000000000000": 0, "0.00000000000001": 0x3D06849B86A12B9B, "0.99999999999999": 0x3FEFFFFFFFFFFFA6, "99999999999999.9": 0x42D6BCC41E8FFFFA, "12345678901234.5": 0x42A674E79C5FE500,
		"1.00000000000000": 0x3FF0000000000000, "123456789012.345": 0x423CBE991A145852, "9.00719925474099": 0x402203AF9EE75614,
	} {
		wantFloat(t, s, good(bits(want)))
	}
	for _, s := range []string{"", ".", "0", "15", ".5", "5.", "0.", ".0", "00.5", "01.5", "00.0", "1..5", "1.2.3", ".1.", "..", "1.5.", ".1.5", "1,5",
		"-1.5", "+1.5", " 1.5", "1.5 ", "1. 5", "1 .5", "1.-5", "1.+5", "1.5e3", "1e3.5", "1_0.5", "1.5_0", "0x1.5", "1.5f", "nan", "inf", "1.5\x00", "١.٥", "1.\xff", "1\xff.5",
		"1234567890.123456", "123456789012345.6", "1.234567890123456", "0.000000000000000", "0.000000000000001", "1234567890123456.7", "0000000000000000.5", "1234567890123456."} {
		wantFloat(t, s, "none")
	}
	wantFloat(t, strings.Repeat("1", 1000000)+".5", "none")
	wantFloat(t, "1."+strings.Repeat("1", 1000000), "none")
	wantFloat(t, strings.Repeat(".", 1000000), "none")
}

// The limit of digits holds for both sides together, however they are split.
func TestDigitsOfFloats(t *testing.T) {
	for n := 2; n <= 18; n++ {
		all := "123456789123456789"[:n]
		for point := 1; point < n; point++ {
			for _, s := range []string{all[:point] + "." + all[point:], "9" + strings.Repeat("0", point-1) + "." + strings.Repeat("9", n-point)} {
				want := "none"
				if n <= 15 {
					f, err := strconv.ParseFloat(s, 64)
					if err != nil {
						t.Fatal(err)
					}
					want = good(float(f))
				}
				wantFloat(t, s, want)
			}
		}
	}
}
