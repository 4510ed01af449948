package machine

import (
	"guise/api"
)

// pen writes a machine down. What values lead to is a node, which gets a number when it is named for the first time; what it holds is written when its turn comes. A text is written where it stands for the first time.
type pen struct {
	round int
	met   []node
	texts map[string]int
	out   []byte
	blind bool // nothing is written: only nodes are looked for
}

// overfull: what is written is more than a saved run may be.
type overfull struct{}

func (m *Machine) newPen(blind bool) *pen {
	m.rounds++
	return &pen{round: m.rounds, texts: map[string]int{}, blind: blind}
}

func (p *pen) bytes(b ...byte) {
	if p.blind {
		return
	}
	p.out = append(p.out, b...)
	if len(p.out) > api.MaxImage {
		panic(overfull{})
	}
}

// number writes digits of base 128, the lowest first.
func (p *pen) number(n int) {
	if p.blind {
		return
	}
	x := uint(n)
	for ; x >= 128; x >>= 7 {
		p.out = append(p.out, byte(x)|128)
	}
	p.bytes(byte(x))
}

// signed writes a number that may be below 0.
func (p *pen) signed(n int) { p.number(n<<1 ^ n>>63) }

func (p *pen) flag(yes bool) {
	if yes {
		p.bytes(1)
	} else {
		p.bytes(0)
	}
}

func (p *pen) text(s string) {
	if p.blind {
		return
	}
	n, known := p.texts[s]
	if known {
		p.number(n)
		return
	}
	n = len(p.texts)
	p.texts[s] = n
	p.number(n)
	p.number(len(s))
	p.bytes([]byte(s)...)
}

// node names one.
func (p *pen) node(n node) {
	at := n.noted()
	if at.round != p.round {
		p.met = append(p.met, n)
		*at = note{p.round, len(p.met)}
	}
	p.number(at.place)
}

// nothing stands for a node where there is none.
func (p *pen) noNode() { p.number(0) }

func (p *pen) values(l []value) {
	p.number(len(l))
	for _, v := range l {
		v.write(p)
	}
}

func (p *pen) numbers(l []int) {
	p.number(len(l))
	for _, n := range l {
		p.number(n)
	}
}

// all writes what a machine has, and then each node that was met.
func (p *pen) all(m *Machine) {
	p.head(m)
	for _, v := range m.globals {
		p.node(v)
	}
	for _, c := range m.calls {
		c.write(p)
	}
	for i := 0; i < len(p.met); i++ {
		p.met[i].write(p)
	}
}

func (p *pen) head(m *Machine) {
	for _, n := range []int{m.depth, m.things, m.steps, m.room, m.result.end} {
		p.number(n)
	}
	p.number(len(m.out))
	for _, line := range m.out {
		p.text(line)
	}
	p.text(m.result.shown)
	p.flag(m.result.cause != nil)
	if f := m.result.cause; f != nil {
		p.text(f.Word)
		p.text(f.More)
	}
	p.number(len(m.calls))
}
