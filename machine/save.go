package machine

import (
	"guise/api"
)

// What stands around a machine's bytes: what they are, and how many there are in all; at their end a check. So no bytes that are cut or longer, and none of which one is another one, are taken for a machine.
const (
	sign     = "GM01"
	ahead    = len(sign) + 4 + 8 // the sign, how many bytes, the program's print
	checkLen = 4
)

// Things is how many things there are; Collect forgets those that it can come to no more: how many. Nobody leads to these: Go's own collector takes them away, and they are counted no more.
func (m *Machine) Things() int { return m.things }

func (m *Machine) Collect() int {
	p := m.newPen(true)
	p.all(m)
	forgotten := m.things - len(p.met)
	m.things = len(p.met)
	return forgotten
}

// Save is all of it as bytes, Load reads that: an error is a *api.Wrong.
func (m *Machine) Save() (string, error) {
	var b string
	switch caught := tried(func() { b = m.image() }).(type) {
	case nil:
		return b, nil
	case overfull:
		return "", &api.Wrong{Code: api.ErrMany}
	default:
		panic(caught)
	}
}

func (m *Machine) image() string {
	p := m.newPen(false)
	p.bytes([]byte(sign)...)
	p.bytes(0, 0, 0, 0)
	p.bytes(fixed(int(m.print), 8)...)
	p.all(m)
	copy(p.out[len(sign):], fixed(len(p.out)+checkLen, 4))
	p.bytes(fixed(int(checkOf(p.out)), checkLen)...)
	return string(p.out)
}

// fixed is a number in so many bytes, the highest first.
func fixed(n, size int) []byte {
	out := make([]byte, size)
	for i := range out {
		out[size-1-i] = byte(n >> (8 * i))
	}
	return out
}

// checkOf is CRC-32: of any two rows of bytes that differ in one byte it is another one.
func checkOf[B []byte | string](b B) uint32 {
	var table [256]uint32
	for i := range table {
		x := uint32(i)
		for range 8 {
			x = x>>1 ^ 0xedb88320*(x&1)
		}
		table[i] = x
	}
	x := ^uint32(0)
	for i := range len(b) {
		x = x>>8 ^ table[byte(x)^b[i]]
	}
	return ^x
}
