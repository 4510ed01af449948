package image

// four is a number as bytes, the highest first.
type four [4]byte

func fourOf(n uint32) four { return four{byte(n >> 24), byte(n >> 16), byte(n >> 8), byte(n)} }

func fourAt(b string, at int) four { return four{b[at], b[at+1], b[at+2], b[at+3]} }

func (f four) number() int { return int(f[0])<<24 | int(f[1])<<16 | int(f[2])<<8 | int(f[3]) }

// checkOf is CRC-32, eight bits at a time: what the eight turns of one byte come to is worked out once for each byte that there is.
func checkOf(b string) uint32 {
	var turned [256]uint32
	for i := range turned {
		turned[i] = eightTurns(uint32(i))
	}
	x := ^uint32(0)
	for i := range len(b) {
		x = x>>8 ^ turned[byte(x)^b[i]]
	}
	return ^x
}

func eightTurns(x uint32) uint32 {
	for range 8 {
		odd := x&1 == 1
		x /= 2
		if odd {
			x ^= 0xedb88320
		}
	}
	return x
}
