package number_test

import (
	"bytes"
	"fmt"
	"math"
	"math/big"
	"regexp"
	"strings"

	"guise/api"
)

// A second way through the chapter: ints as numbers of any size, bit by bit where bits are asked; floats as fractions, with what they
// are besides (a sign, infinite, no number) told by their bits.

func modelName(a api.Datum) string {
	told := map[int]string{api.KNil: "nil", api.KPointer: "*" + a.Type}
	if s, is := told[a.Kind]; is {
		return s
	}
	return a.Type
}

func modelUnary(op string, a api.Datum) string {
	switch fmt.Sprint(op, " ", a.Kind) {
	case fmt.Sprint("- ", api.KInt):
		return good(typed(a.Type, integer(round(new(big.Int).Neg(whole(a))))))
	case fmt.Sprint("^ ", api.KInt):
		return good(typed(a.Type, integer(byBits(a.N, -1, "10 01"))))
	case fmt.Sprint("! ", api.KBool):
		return good(typed(a.Type, truth(a.N == 0)))
	case fmt.Sprint("- ", api.KFloat):
		f := fractionOf(a.F)
		f.negative = !f.negative
		return good(typed(a.Type, bits(f.bits())))
	}
	return bad("operand", op+" "+modelName(a))
}

func modelBinary(op string, a, b api.Datum) string {
	if a.Kind == b.Kind && a.Type == b.Type && among(op, has[a.Kind]) {
		if among(op, ordering) {
			return good(truth(modelOrder(op, a, b)))
		}
		switch a.Kind {
		case api.KInt:
			return modelInts(op, a, b)
		case api.KFloat:
			return good(typed(a.Type, bits(modelFloats(op, fractionOf(a.F), fractionOf(b.F)))))
		}
		all := []byte(a.S)
		for i := range len(b.S) {
			all = append(all, b.S[i])
		}
		if len(all) > 65536 {
			return bad("count", fmt.Sprint(len(all)))
		}
		return good(typed(a.Type, text(string(all))))
	}
	return bad("operand", strings.Join([]string{op, modelName(a), modelName(b)}, " "))
}

func truth(is bool) api.Datum {
	if is {
		return boolean(1)
	}
	return boolean(0)
}

func whole(a api.Datum) *big.Int { return big.NewInt(int64(a.N)) }

// round is a number modulo 2^64, as an int.
func round(x *big.Int) int {
	all := new(big.Int).Lsh(big.NewInt(1), 64)
	x = new(big.Int).Mod(x, all)
	if x.Bit(63) == 1 {
		x.Sub(x, all)
	}
	return int(x.Int64())
}

// byBits sets each bit whose two bits are in a list.
func byBits(a, b int, list string) int {
	x := new(big.Int)
	for i := range 64 {
		if among(fmt.Sprintf("%d%d", uint64(a)>>i&1, uint64(b)>>i&1), list) {
			x.SetBit(x, i, 1)
		}
	}
	return round(x)
}

func modelInts(op string, a, b api.Datum) string {
	x, y, z := whole(a), whole(b), new(big.Int)
	switch op {
	case "+":
		z.Add(x, y)
	case "-":
		z.Sub(x, y)
	case "*":
		z.Mul(x, y)
	case "/", "%":
		if b.N == 0 {
			return bad("divide", "")
		}
		z.Quo(x, y)
		if op == "%" {
			z.Sub(x, new(big.Int).Mul(y, z))
		}
	case "<<", ">>":
		if b.N < 0 {
			return bad("count", fmt.Sprint(b.N))
		}
		for range min(b.N, 200) {
			if op == "<<" {
				x.Add(x, x)
			} else {
				x.Div(x, big.NewInt(2)) // toward what is less
			}
		}
		z = x
	default:
		z = big.NewInt(int64(byBits(a.N, b.N, map[string]string{"&": "11", "|": "01 10 11", "^": "01 10"}[op])))
	}
	return good(typed(a.Type, integer(round(z))))
}

// fraction is what a float's bits say.
type fraction struct {
	none, infinite, negative bool
	size                     *big.Rat // without the sign
}

func fractionOf(b uint64) fraction {
	f := fraction{negative: b>>63 == 1, size: new(big.Rat)}
	power, rest := int(b>>52&0x7FF), new(big.Int).SetUint64(b&(1<<52-1))
	if power == 0x7FF {
		f.infinite, f.none = rest.Sign() == 0, rest.Sign() != 0
		return f
	}
	if power == 0 {
		power = 1
	} else {
		rest.SetBit(rest, 52, 1)
	}
	power -= 1075
	if power > 0 {
		rest.Lsh(rest, uint(power))
		power = 0
	}
	f.size.SetFrac(rest, new(big.Int).Lsh(big.NewInt(1), uint(-power)))
	return f
}

// bits are the nearest float's; ties to even.
func (f fraction) bits() uint64 {
	if f.none {
		return oneNaN
	}
	sign := uint64(0)
	if f.negative {
		sign = 1 << 63
	}
	if f.infinite {
		return sign | infinity
	}
	// As many bits as a float has stay ahead of the point: 53, or fewer near 0.
	power := 0
	if f.size.Sign() > 0 {
		power = f.size.Num().BitLen() - f.size.Denom().BitLen()
		if f.size.Cmp(powerOfTwo(power)) < 0 {
			power--
		}
	}
	power = max(power, -1022) - 52
	scaled := new(big.Rat).Quo(f.size, powerOfTwo(power))
	n, left := new(big.Int).QuoRem(scaled.Num(), scaled.Denom(), new(big.Int))
	half := left.Lsh(left, 1).Cmp(scaled.Denom())
	if half > 0 || half == 0 && n.Bit(0) == 1 {
		n.Add(n, big.NewInt(1))
	}
	// Laid one on the other, the bits of the number carry into those of the power by themselves, up to what is infinite.
	if n.BitLen() <= 52 {
		return sign | n.Uint64()
	}
	b := n.Uint64() + uint64(power+1074)<<52
	return sign | min(b, infinity)
}

func powerOfTwo(n int) *big.Rat {
	x := new(big.Rat).SetInt(new(big.Int).Lsh(big.NewInt(1), uint(max(n, -n))))
	if n < 0 {
		x.Inv(x)
	}
	return x
}

func (f fraction) signed() *big.Rat {
	if f.negative {
		return new(big.Rat).Neg(f.size)
	}
	return f.size
}

func modelFloats(op string, a, b fraction) uint64 {
	none := fraction{none: true}
	if a.none || b.none {
		return none.bits()
	}
	switch op {
	case "-":
		b.negative = !b.negative
		fallthrough
	case "+":
		return modelSum(a, b).bits()
	case "/":
		if a.infinite && b.infinite || !a.infinite && a.size.Sign() == 0 && !b.infinite && b.size.Sign() == 0 {
			return none.bits()
		}
		out := fraction{negative: a.negative != b.negative, size: new(big.Rat)}
		if b.infinite {
			return out.bits()
		}
		if out.infinite = a.infinite || b.size.Sign() == 0; !out.infinite {
			out.size.Quo(a.size, b.size)
		}
		return out.bits()
	}
	out := fraction{negative: a.negative != b.negative, infinite: a.infinite || b.infinite, size: new(big.Rat)}
	if out.infinite {
		out.none = !a.infinite && a.size.Sign() == 0 || !b.infinite && b.size.Sign() == 0
		return out.bits()
	}
	out.size.Mul(a.size, b.size)
	return out.bits()
}

func modelSum(a, b fraction) fraction {
	switch {
	case a.infinite && b.infinite && a.negative != b.negative:
		return fraction{none: true}
	case a.infinite:
		return a
	case b.infinite:
		return b
	}
	sum := new(big.Rat).Add(a.signed(), b.signed())
	out := fraction{negative: sum.Sign() < 0, size: new(big.Rat).Abs(sum)}
	if sum.Sign() == 0 {
		out.negative = a.negative && b.negative
	}
	return out
}

func modelOrder(op string, a, b api.Datum) bool {
	sign := 0
	switch a.Kind {
	case api.KInt:
		sign = whole(a).Cmp(whole(b))
	case api.KText:
		sign = bytes.Compare([]byte(a.S), []byte(b.S))
	case api.KFloat:
		x, y := fractionOf(a.F), fractionOf(b.F)
		if x.none || y.none {
			return false
		}
		beyond := new(big.Rat).SetInt(new(big.Int).Lsh(big.NewInt(1), 2000))
		for _, f := range []*fraction{&x, &y} {
			if f.infinite {
				f.size = beyond
			}
		}
		sign = x.signed().Cmp(y.signed())
	}
	return map[string]bool{"<": sign < 0, "<=": sign <= 0, ">": sign > 0, ">=": sign >= 0}[op]
}

func modelConvert(kind int, name string, a api.Datum) string {
	switch {
	case kind < api.KBool || kind > api.KFunc || kind != a.Kind && !(kind == api.KInt && a.Kind == api.KFloat) && !(kind == api.KFloat && a.Kind == api.KInt):
		return bad("operand", name+" "+modelName(a))
	case kind != a.Kind && kind == api.KFloat:
		f := fraction{negative: a.N < 0, size: new(big.Rat).SetInt(new(big.Int).Abs(whole(a)))}
		return good(typed(name, bits(f.bits())))
	case kind != a.Kind:
		f := fractionOf(a.F)
		n := new(big.Int).Quo(f.signed().Num(), f.size.Denom())
		if f.none || f.infinite || !n.IsInt64() {
			n.SetInt64(math.MinInt64)
		}
		return good(typed(name, integer(int(n.Int64()))))
	}
	out := kept(name, a)
	if kind == api.KFloat {
		out.F = fractionOf(a.F).bits()
	}
	return good(out)
}

var (
	modelIntForm   = regexp.MustCompile(`\A(0|[1-9][0-9]{0,18})\z`)
	modelFloatForm = regexp.MustCompile(`\A(0|[1-9][0-9]*)\.[0-9]+\z`)
)

func modelInt(s string) string {
	n, _ := new(big.Int).SetString(s, 10)
	if !modelIntForm.MatchString(s) || !n.IsInt64() {
		return "none"
	}
	return good(integer(int(n.Int64())))
}

func modelFloat(s string) string {
	if !modelFloatForm.MatchString(s) || len(s) > 16 {
		return "none"
	}
	size, _ := new(big.Rat).SetString(s)
	return good(bits(fraction{size: size}.bits()))
}

func modelShow(a api.Datum) string {
	if a.Kind < api.KBool || a.Kind > api.KText {
		return map[bool]string{true: "nil"}[a.Kind == api.KNil]
	}
	shown := ""
	switch kindNames[a.Kind] {
	case "bool":
		shown = fmt.Sprint(a.N != 0)
	case "int":
		shown = whole(a).String()
	case "float":
		if shown = "nan"; !fractionOf(a.F).none {
			shown = fmt.Sprintf("0x%016x", a.F)
		}
	case "text":
		for i := range len(a.S) {
			one := fmt.Sprintf(`\x%02x`, a.S[i])
			if a.S[i] >= ' ' && a.S[i] <= '~' {
				one = a.S[i : i+1]
			}
			if short := map[byte]string{'"': `\"`, '\\': `\\`, '\n': `\n`, '\t': `\t`}[a.S[i]]; short != "" {
				one = short
			}
			shown += one
		}
		shown = `"` + shown + `"`
	}
	if a.Type == kindNames[a.Kind] {
		return shown
	}
	return fmt.Sprintf("%s(%s)", a.Type, shown)
}
