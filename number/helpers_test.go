package number_test

import (
	"errors"
	"fmt"
	"math"
	"math/rand/v2"
	"strconv"
	"testing"

	"guise/api"
	"guise/number"
)

const (
	least     = math.MinInt64
	most      = math.MaxInt64
	oneNaN    = 0x7FF8000000000001
	minusZero = 1 << 63
	infinity  = 0x7FF0000000000000
	minusInf  = 0xFFF0000000000000
	greatest  = 0x7FEFFFFFFFFFFFFF // of the floats
	smallest  = 1                  // of the floats above 0
	normal    = 0x0010000000000000 // the smallest with all its bits
)

// otherNaNs are those that are never told.
var otherNaNs = []uint64{0x7FF0000000000001, 0x7FF4000000000000, 0x7FF8000000000000, 0x7FF8000000000002, 0x7FFFFFFFFFFFFFFF,
	0xFFF0000000000001, 0xFFF8000000000000, 0xFFF8000000000001, 0xFFFFFFFFFFFFFFFF}

// operations are all that the chapter has, and others that are none.
var operations = []string{"+", "-", "*", "/", "%", "&", "|", "^", "<<", ">>", "<", "<=", ">", ">=", "!",
	"==", "!=", "&&", "||", "", " ", "=", "++", "--", "+=", "<<=", ">>>", "+ ", " +", "[]", "in", "a", "\x00", "\xff", "×"}

var kindNames = []string{"nil", "bool", "int", "float", "text", "list", "map", "func", "struct", "pointer"}

func boolean(n int) api.Datum { return api.Datum{Kind: api.KBool, Type: "bool", N: n} }

func integer(n int) api.Datum { return api.Datum{Kind: api.KInt, Type: "int", N: n} }

func bits(b uint64) api.Datum { return api.Datum{Kind: api.KFloat, Type: "float", F: b} }

func float(f float64) api.Datum { return bits(math.Float64bits(f)) }

func text(s string) api.Datum { return api.Datum{Kind: api.KText, Type: "text", S: s} }

func typed(name string, d api.Datum) api.Datum {
	d.Type = name
	return d
}

// kinded is a datum of any number as its kind, there is one or not, in which all is set.
func kinded(kind int, name string) api.Datum {
	return messy(api.Datum{Kind: kind, Type: name, N: 3, F: 0x4008000000000000, S: "3"})
}

// messy sets all that is not looked at.
func messy(d api.Datum) api.Datum {
	if d.Kind != api.KBool && d.Kind != api.KInt {
		d.N = -77
	}
	if d.Kind != api.KFloat {
		d.F = 0xFFF8000000000077
	}
	if d.Kind != api.KText {
		d.S = "mess"
	}
	d.Ref = api.Ref{Object: 7, From: 1, Len: 2, Cap: 3, Path: []int{4, 5}}
	d.Items = []api.Datum{{Kind: api.KInt, Type: "int", N: 9}, {}}
	return d
}

// good writes a datum with all that is in it.
func good(d api.Datum) string { return fmt.Sprintf("%+v", d) }

func bad(word, more string) string { return "!" + word + " " + strconv.Quote(more) }

// answered writes what a call answers: beside an error stands nothing, and an error is a fault itself.
func answered(t *testing.T, d api.Datum, err error) string {
	t.Helper()
	if err == nil {
		return good(d)
	}
	f, is := err.(*api.Fault)
	if !is || f == nil {
		t.Fatalf("%#v is no *api.Fault", err)
	}
	var found *api.Fault
	if !errors.As(err, &found) || found != f {
		t.Errorf("%v is not found by errors.As", err)
	}
	if good(d) != good(api.Datum{}) {
		t.Errorf("beside %v stands %+v", err, d)
	}
	return bad(f.Word, f.More)
}

func unary(t *testing.T, op string, a api.Datum) string {
	t.Helper()
	d, err := number.Unary(op, a)
	return answered(t, d, err)
}

func binary(t *testing.T, op string, a, b api.Datum) string {
	t.Helper()
	d, err := number.Binary(op, a, b)
	return answered(t, d, err)
}

func converted(t *testing.T, kind int, name string, a api.Datum) string {
	t.Helper()
	d, err := number.Convert(kind, name, a)
	return answered(t, d, err)
}

// literal writes what Int and Float answer: beside false stands nothing.
func literal(t *testing.T, d api.Datum, is bool) string {
	t.Helper()
	if is {
		return good(d)
	}
	if good(d) != good(api.Datum{}) {
		t.Errorf("N4: beside false stands %+v", d)
	}
	return "none"
}

func intRead(t *testing.T, s string) string {
	t.Helper()
	d, is := number.Int(s)
	return literal(t, d, is)
}

func floatRead(t *testing.T, s string) string {
	t.Helper()
	d, is := number.Float(s)
	return literal(t, d, is)
}

func brief(s string) string {
	if len(s) > 400 {
		return s[:400] + ".."
	}
	return s
}

func wantUnary(t *testing.T, op string, a api.Datum, want string) {
	t.Helper()
	if got := unary(t, op, a); got != want {
		t.Errorf("N1: %q of %s: %s, must be %s", op, brief(good(a)), brief(got), brief(want))
	}
}

func wantBinary(t *testing.T, op string, a, b api.Datum, want string) {
	t.Helper()
	if got := binary(t, op, a, b); got != want {
		t.Errorf("N2: %q of %s and %s: %s, must be %s", op, brief(good(a)), brief(good(b)), brief(got), brief(want))
	}
}

func wantConvert(t *testing.T, kind int, name string, a api.Datum, want string) {
	t.Helper()
	if got := converted(t, kind, name, a); got != want {
		t.Errorf("N3: %d %q of %s: %s, must be %s", kind, name, brief(good(a)), brief(got), brief(want))
	}
}

func wantInt(t *testing.T, s, want string) {
	t.Helper()
	if got := intRead(t, s); got != want {
		t.Errorf("N4: Int(%q): %s, must be %s", brief(s), got, want)
	}
}

func wantFloat(t *testing.T, s, want string) {
	t.Helper()
	if got := floatRead(t, s); got != want {
		t.Errorf("N4: Float(%q): %s, must be %s", brief(s), got, want)
	}
}

func wantShow(t *testing.T, a api.Datum, want string) {
	t.Helper()
	if got := number.Show(a); got != want {
		t.Errorf("N5: Show of %s: %q, must be %q", brief(good(a)), brief(got), brief(want))
	}
}

func wantName(t *testing.T, a api.Datum, want string) {
	t.Helper()
	if got := number.Name(a); got != want {
		t.Errorf("N5: Name of %s: %q, must be %q", brief(good(a)), got, want)
	}
}

// done is what comes out where there must be no fault.
func done(t *testing.T, d api.Datum, err error) api.Datum {
	t.Helper()
	if err != nil {
		t.Fatalf("%v", err)
	}
	return d
}

func unaryDone(t *testing.T, op string, a api.Datum) api.Datum {
	t.Helper()
	d, err := number.Unary(op, a)
	return done(t, d, err)
}

func binaryDone(t *testing.T, op string, a, b api.Datum) api.Datum {
	t.Helper()
	d, err := number.Binary(op, a, b)
	return done(t, d, err)
}

func convertDone(t *testing.T, kind int, name string, a api.Datum) api.Datum {
	t.Helper()
	d, err := number.Convert(kind, name, a)
	return done(t, d, err)
}

// dice gives the same numbers on every run.
func dice(seed uint64) *rand.Rand { return rand.New(rand.NewPCG(seed, 6)) }

func oneOf[T any](r *rand.Rand, list ...T) T { return list[r.IntN(len(list))] }
