package number

import (
	"math"
	"strings"

	"guise/api"
)

const intDigits = 19 // of these each number has room in 64 bits without a sign

// Int and Float are literals.
func Int(s string) (api.Datum, bool) {
	n, is := digits(s)
	if !is || !plain(s) || n > math.MaxInt64 {
		return api.Datum{}, false
	}
	return intOf("int", int(n)), true
}

func Float(s string) (api.Datum, bool) {
	ahead, behind, is := strings.Cut(s, ".")
	if !is || !plain(ahead) || behind == "" || len(ahead)+len(behind) > api.MaxDigits {
		return api.Datum{}, false
	}
	n, is := digits(ahead + behind)
	if !is {
		return api.Datum{}, false
	}
	power := 1.0
	for range len(behind) {
		power *= 10
	}
	return floatOf("float", math.Float64bits(float64(n)/power)), true
}

// plain: something stands there, and no 0 ahead of more.
func plain(s string) bool {
	return s != "" && (s == "0" || s[0] != '0')
}

func digits(s string) (uint64, bool) {
	if len(s) > intDigits {
		return 0, false
	}
	n := uint64(0)
	for i := range len(s) {
		if s[i] < '0' || s[i] > '9' {
			return 0, false
		}
		n = n*10 + uint64(s[i]-'0')
	}
	return n, true
}
