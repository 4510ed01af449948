package number_test

import (
	"testing"

	"guise/api"
)

func TestExamples(t *testing.T) {
	wantUnary(t, "-", integer(least), good(integer(least)))
	wantUnary(t, "-", bits(0x8000000000000000), good(bits(0)))
	wantUnary(t, "-", text("a"), bad("operand", "- text"))
	wantUnary(t, "!", api.Datum{}, bad("operand", "! nil"))
	wantBinary(t, "+", integer(1), typed("T", integer(2)), bad("operand", "+ int T"))
	wantBinary(t, "/", integer(-7), integer(2), good(integer(-3)))
	wantBinary(t, "%", integer(-7), integer(2), good(integer(-1)))
	wantBinary(t, "/", integer(7), integer(0), bad("divide", ""))
	wantBinary(t, "%", integer(7), integer(0), bad("divide", ""))
	wantBinary(t, ">>", integer(-1), integer(64), good(integer(-1)))
	wantBinary(t, "<<", integer(1), integer(63), good(integer(least)))
	wantBinary(t, "<<", integer(1), integer(-1), bad("count", "-1"))
	wantBinary(t, "<", bits(oneNaN), float(1), good(boolean(0)))
	wantBinary(t, "<", text("ab"), text("abc"), good(boolean(1)))
	wantConvert(t, api.KInt, "int", float(1e300), good(integer(least)))
	wantConvert(t, api.KFloat, "F", integer(3), good(typed("F", bits(0x4008000000000000))))
	wantConvert(t, api.KText, "text", integer(3), bad("operand", "text int"))
	wantInt(t, "007", "none")
	wantInt(t, "9223372036854775808", "none")
	wantFloat(t, ".5", "none")
	wantFloat(t, "1234567890.123456", "none")
	wantShow(t, typed("T", integer(-5)), "T(-5)")
	wantShow(t, text(`a"`), `"a\""`)
}

// The lines of chapter 00 and of DOC.md that are about these kinds.
func TestExamplesOfTheWhole(t *testing.T) {
	wantBinary(t, "+", integer(1), integer(2), good(integer(3)))
	wantBinary(t, "+", text("a"), text("b"), good(text("ab")))
	wantBinary(t, "+", integer(1), text("a"), bad("operand", "+ int text"))
	wantConvert(t, api.KInt, "T", api.Datum{}, bad("operand", "T nil"))
}
