package machine

import (
	"slices"
	"strings"

	"guise/api"
	"guise/code"
	"guise/types"
)

// Load reads what Save wrote.
func Load(b string, p code.Program, t *types.Table) (*Machine, error) {
	m, err := New(p, t, 1)
	if err != nil {
		return nil, err
	}
	m.globals, m.calls = nil, nil
	if tried(func() { fill(m, b) }) != nil {
		return nil, &api.Wrong{Code: api.ErrImage}
	}
	return m, nil
}

// noImage: bytes are no machine's.
type noImage struct{}

// must: what an image says may be.
func must(may bool) {
	if !may {
		panic(noImage{})
	}
}

// fill makes a machine what bytes say; it gives up where they say something that may not be. What may be said in two ways is said in one by Save.
func fill(m *Machine, b string) {
	must(len(b) <= api.MaxImage && len(b) >= ahead+checkLen)
	end := len(b) - checkLen
	must(b[:len(sign)] == sign && b[len(sign):len(sign)+4] == string(fixed(len(b), 4)))
	must(b[len(sign)+4:ahead] == string(fixed(int(m.print), 8)))
	must(b[end:] == string(fixed(int(checkOf(b[:end])), checkLen)))
	r := &reader{machine: m, rest: b[ahead:end]}
	r.all()
	must(r.rest == "")
	again, err := m.Save()
	must(err == nil && again == b)
}

// reader reads what a pen wrote.
type reader struct {
	machine *Machine
	rest    string
	texts   []string
	nodes   []node
	within  int       // structs around the value at hand
	lists   []list    // pieces and pointers that were read: whether
	points  []pointer // they fit is seen when all nodes are there
}

func (r *reader) byte() byte {
	must(r.rest != "")
	b := r.rest[0]
	r.rest = r.rest[1:]
	return b
}

func (r *reader) number() int {
	x := uint(0)
	for shift := 0; shift < 64; shift += 7 {
		b := r.byte()
		x |= uint(b&127) << shift
		if b < 128 {
			return int(x)
		}
	}
	panic(noImage{})
}

func (r *reader) signed() int {
	x := uint(r.number())
	return int(x>>1) ^ -int(x&1)
}

// upTo is a number that is not above a limit.
func (r *reader) upTo(limit int) int {
	n := r.number()
	must(n >= 0 && n <= limit)
	return n
}

// count is a number of things, each of which takes a byte at least.
func (r *reader) count() int {
	n := r.number()
	must(n >= 0 && n <= len(r.rest))
	return n
}

func (r *reader) flag() bool {
	b := r.byte()
	must(b <= 1)
	return b == 1
}

func (r *reader) text() string {
	n := r.upTo(len(r.texts))
	if n == len(r.texts) {
		size := r.count()
		r.texts = append(r.texts, strings.Clone(r.rest[:size]))
		r.rest = r.rest[size:]
	}
	return r.texts[n]
}

// met is a node by its number: one that is named for the first time is made.
func met[N node](r *reader, made func() N) N {
	n := r.upTo(len(r.nodes) + 1)
	must(n > 0)
	if n > len(r.nodes) {
		r.nodes = append(r.nodes, made())
	}
	if x, is := r.nodes[n-1].(N); is {
		return x
	}
	panic(noImage{})
}

// isNone: no node is named.
func (r *reader) isNone() bool {
	must(r.rest != "")
	if r.rest[0] != 0 {
		return false
	}
	r.rest = r.rest[1:]
	return true
}

func (r *reader) variable() *variable { return met(r, func() *variable { return &variable{} }) }

func (r *reader) array() *array { return met(r, func() *array { return &array{} }) }

func (r *reader) store() *store { return met(r, newStore) }

func (r *reader) object() *object {
	return met(r, func() *object {
		r.machine.objects++
		return &object{number: r.machine.objects}
	})
}

func (r *reader) variables(n int) []*variable {
	var out []*variable
	for range n {
		out = append(out, r.variable())
	}
	return out
}

// all reads a machine.
func (r *reader) all() {
	m := r.machine
	m.depth = r.upTo(api.MaxDepth)
	m.things, m.steps = r.upTo(1<<62), r.upTo(1<<62)
	m.room = r.upTo(api.MaxRoom)
	must(m.depth > 0)
	r.result()
	calls := r.upTo(m.depth + 1)
	m.globals = r.variables(m.variables)
	for range calls {
		m.calls = append(m.calls, r.call(len(m.calls) == 0))
	}
	must(m.Over() == (calls == 0))
	for i := 0; i < len(r.nodes); i++ {
		r.fill(r.nodes[i])
	}
	must(m.things >= len(r.nodes))
	r.fit()
	r.fitCalls()
}

func (r *reader) result() {
	m := r.machine
	m.result.end = r.upTo(api.Full)
	must(m.result.end != api.Spent)
	left := m.room
	for range r.count() {
		line := r.text()
		left -= len(line)
		must(left >= 0) // each took its bytes: so what a Run answers is never more than there is room for
		m.out = append(m.out, line)
	}
	m.result.shown = r.text()
	if r.flag() {
		m.result.cause = &api.Fault{Word: r.text(), More: r.text()}
	}
	must(m.result.end == api.Panic || m.result.shown == "" && m.result.cause == nil)
}

// fit: lists' pieces lie within their arrays, pointers lead to structs of their types.
func (r *reader) fit() {
	for _, l := range r.lists {
		most := len(l.array.elements)
		must(l.length <= l.capacity && l.from <= most && l.capacity <= most-l.from)
	}
	for _, p := range r.points {
		s := p.object.held
		for _, field := range p.path {
			must(field < len(s.items) && r.machine.shapes[s.name].embeds[field] == types.EmbedValue)
			s = s.items[field].(*structure)
		}
		must(s.name == p.name)
	}
}

// fitCalls: each call stands where it can stand, with the things on its stack that lie there then.
func (r *reader) fitCalls() {
	known := map[*routine][]*pile{}
	calls := r.machine.calls
	for i, c := range calls {
		if known[c.routine] == nil {
			known[c.routine] = pilesOf(c.routine)
		}
		must(stands(c, known[c.routine], i == len(calls)-1))
	}
}

// stands: a call is at an instruction that is come to; or has called another one, and waits for its answer; or is ending, behind its return or a panic (if it is panicking no more, it answers nil).
func stands(c *call, piles []*pile, last bool) bool {
	if c.ending && c.next == 0 {
		return len(c.stack) == 0 && (c.panicking || isNil(c.answer))
	}
	at, stack := c.next, c.stack
	switch {
	case c.ending:
		if at--; c.code[at].Op != code.OpReturn || c.panicking {
			return false
		}
		stack = append(slices.Clone(stack), nothing{})
	case !last:
		if at == 0 || c.code[at-1].Op != code.OpCall {
			return false
		}
		stack = append(slices.Clone(stack), nothing{})
	}
	return at < len(piles) && piles[at] != nil && piles[at].holds(stack) && (c.ending || !c.panicking)
}
