package machine

// Sealed is bytes with the sign, the length, the program's print and the check that Save gives them, whatever stands between: so Load looks at that.
func Sealed(like, between string) string {
	b := []byte(like[:ahead] + between)
	copy(b[len(sign):], fixed(len(b)+checkLen, 4))
	return string(b) + string(fixed(int(checkOf(b)), checkLen))
}

// Between is what stands between.
func Between(b string) string { return b[ahead : len(b)-checkLen] }
