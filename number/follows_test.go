package number_test

import (
	"math"
	"strings"
	"testing"

	"guise/api"
	"guise/number"
)

func sameDatum(t *testing.T, what string, a, b api.Datum) {
	t.Helper()
	if good(a) != good(b) {
		t.Fatalf("N6: %s: %s and %s", what, good(a), good(b))
	}
}

func TestIntsFollow(t *testing.T) {
	g := growing(11)
	for range 20000 {
		a, b := typed("T", integer(g.number())), typed("T", integer(g.number()))
		sameDatum(t, "- is + of -", binaryDone(t, "-", a, b), binaryDone(t, "+", a, unaryDone(t, "-", b)))
		sameDatum(t, "^ with all bits", binaryDone(t, "^", a, typed("T", integer(-1))), unaryDone(t, "^", a))
		sameDatum(t, "- twice", unaryDone(t, "-", unaryDone(t, "-", a)), a)
		if b.N == 0 {
			continue
		}
		quotient, rest := binaryDone(t, "/", a, b), binaryDone(t, "%", a, b)
		sameDatum(t, "a / b * b + a % b", binaryDone(t, "+", binaryDone(t, "*", quotient, b), rest), a)
	}
}

func TestShiftsFollow(t *testing.T) {
	g := growing(12)
	for range 300 {
		a := integer(g.number())
		for _, op := range []string{"<<", ">>"} {
			stepwise := a
			for n := range 200 {
				sameDatum(t, op, binaryDone(t, op, a, integer(n)), stepwise)
				stepwise = binaryDone(t, op, stepwise, integer(1))
			}
		}
	}
}

// is asks a comparison.
func is(t *testing.T, op string, a, b api.Datum) bool {
	t.Helper()
	d := binaryDone(t, op, a, b)
	sameDatum(t, op, d, boolean(d.N&1))
	return d.N == 1
}

func TestComparisonsFollow(t *testing.T) {
	g := growing(13)
	for range 20000 {
		a := g.datum()
		b := g.other(a)
		b.Kind, b.Type = a.Kind, a.Type
		if a.Kind != api.KInt && a.Kind != api.KFloat && a.Kind != api.KText {
			continue
		}
		below, above := is(t, "<", a, b), is(t, ">", a, b)
		if a.Kind == api.KFloat && (math.IsNaN(math.Float64frombits(a.F)) || math.IsNaN(math.Float64frombits(b.F))) {
			if below || above || is(t, "<=", a, b) || is(t, ">=", a, b) {
				t.Fatalf("N6: %x and %x", a.F, b.F)
			}
			continue
		}
		neither := !below && !above
		if below && above || is(t, "<=", a, b) != (below || neither) || is(t, ">=", a, b) != (above || neither) {
			t.Fatalf("N6: %s and %s", good(a), good(b))
		}
		if is(t, "<", b, a) != above || is(t, ">", b, a) != below {
			t.Fatalf("N6: %s and %s, the other way round", good(a), good(b))
		}
		if same := a.N == b.N; a.Kind == api.KInt && neither != same {
			t.Fatalf("N6: %d and %d", a.N, b.N)
		}
		if same := a.S == b.S; a.Kind == api.KText && neither != same {
			t.Fatalf("N6: %q and %q", a.S, b.S)
		}
	}
}

func TestTextsFollow(t *testing.T) {
	g := growing(14)
	sum := func(list ...api.Datum) (api.Datum, error) { return number.Binary("+", list[0], list[1]) }
	for i := range 3000 {
		a, b, c := text(g.text()), text(g.text()), text(g.text())
		if i%30 == 0 {
			b.S = strings.Repeat("x", 65528+g.IntN(9))
		}
		left, err := sum(a, b)
		if err == nil {
			left, err = sum(left, c)
		}
		right, too := sum(b, c)
		if too == nil {
			right, too = sum(a, right)
		}
		if (err == nil) != (too == nil) || (err == nil) != (len(a.S)+len(b.S)+len(c.S) <= api.MaxText) {
			t.Fatalf("N6: from the left %v, from the right %v", err, too)
		}
		sameDatum(t, "+ of three", left, right)
	}
}

func TestConversionsFollow(t *testing.T) {
	g := growing(15)
	for range 20000 {
		a := g.datum()
		if a.Kind < api.KBool || a.Kind > api.KFunc {
			continue
		}
		own := convertDone(t, a.Kind, a.Type, a) // nothing in it but what its kind has
		there := convertDone(t, a.Kind, "There", own)
		sameDatum(t, "there and back", convertDone(t, a.Kind, a.Type, there), own)
		if there.Type != "There" || there.Kind != a.Kind {
			t.Fatalf("N6: %s", good(there))
		}
		if a.Kind == api.KInt {
			small := typed("T", integer(a.N>>11)) // 53 bits with the sign's
			for _, n := range []int{small.N, small.N * 2, 1 << 53, -1 << 53, 1<<53 - 1, 1 - 1<<53} {
				if n > 1<<53 || n < -1<<53 {
					continue
				}
				small.N = n
				sameDatum(t, "behind float and back", convertDone(t, api.KInt, "T", convertDone(t, api.KFloat, "F", small)), small)
			}
		}
		if a.Kind == api.KFloat {
			// What comes out of a float that is an int is that int: back it is the same float, but for -0.
			n := convertDone(t, api.KInt, "int", a)
			f := convertDone(t, api.KFloat, "float", n)
			if x := math.Float64frombits(a.F); x == math.Trunc(x) && math.Abs(x) < 1<<63 && math.Float64frombits(f.F) != x {
				t.Fatalf("N6: %v, back %v", x, math.Float64frombits(f.F))
			}
		}
	}
}

func TestTypesFollow(t *testing.T) {
	g := growing(16)
	for range 30000 {
		a := g.datum()
		b, op := g.other(a), g.operation()
		if d, err := number.Unary(op, a); err == nil && (d.Kind != a.Kind || d.Type != a.Type) {
			t.Fatalf("N6: %s of %s: %s", op, good(a), good(d))
		}
		d, err := number.Binary(op, a, b)
		if err != nil {
			continue
		}
		if among(op, ordering) {
			sameDatum(t, op, d, boolean(d.N&1))
		} else if d.Kind != a.Kind || d.Type != a.Type {
			t.Fatalf("N6: %s of %s and %s: %s", op, good(a), good(b), good(d))
		}
	}
}

func TestLiteralsFollow(t *testing.T) {
	g := growing(17)
	for range 20000 {
		n := integer(g.number())
		if n.N < 0 {
			wantInt(t, number.Show(n), "none")
			continue
		}
		wantInt(t, number.Show(n), good(n))
	}
	for range 20000 {
		s := g.literal()
		f, is := number.Float(s)
		if !is {
			continue
		}
		// A float's literal without its point is the digits' number, and 10 to the power of those behind it divides that.
		ahead, behind, _ := strings.Cut(s, ".")
		power := float(1)
		for range len(behind) {
			power = binaryDone(t, "*", power, float(10))
		}
		all, is := number.Int(strings.TrimLeft(ahead+behind, "0"))
		if !is {
			all = integer(0)
		}
		sameDatum(t, s, binaryDone(t, "/", convertDone(t, api.KFloat, "float", all), power), f)
	}
}
