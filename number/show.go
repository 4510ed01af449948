package number

import (
	"strconv"
	"strings"

	"guise/api"
	"guise/lex"
)

// Show writes a bool, an int, a float or a text.
func Show(a api.Datum) string {
	own, shown := "", ""
	switch a.Kind {
	case api.KNil:
		return "nil"
	case api.KBool:
		own, shown = "bool", strconv.FormatBool(a.N != 0)
	case api.KInt:
		own, shown = "int", strconv.Itoa(a.N)
	case api.KFloat:
		own, shown = "float", shownBits(a.F)
	case api.KText:
		own, shown = "text", lex.Quote(a.S)
	default:
		return ""
	}
	if a.Type == own {
		return shown
	}
	return a.Type + "(" + shown + ")"
}

func shownBits(bits uint64) string {
	if isNaN(bits) {
		return "nan"
	}
	digits := strconv.FormatUint(bits, 16)
	return "0x" + strings.Repeat("0", 16-len(digits)) + digits
}
