package machine_test

import "guise/api"

// things is how many there are: declared functions are none.
func (m *player) things() int { return len(m.heap.Things()) - len(m.declared) }

// collect forgets all things to which nothing leads: how many.
func (m *player) collect() int {
	reached := map[int]bool{}
	var see func(n int)
	see = func(n int) {
		if !reached[n] {
			reached[n] = true
			for _, to := range m.heap.Leads(n) {
				see(to)
			}
		}
	}
	for _, f := range m.declared {
		see(f.Ref.Object)
	}
	for _, box := range m.globals {
		see(box)
	}
	m.seeData(see, m.handed)
	for _, c := range m.frames {
		m.seeCall(see, c)
	}
	forgotten := 0
	for _, n := range m.heap.Things() {
		if !reached[n] {
			m.heap.Free(n)
			forgotten++
		}
	}
	return forgotten
}

func (m *player) seeCall(see func(int), c *playing) {
	for _, box := range append(c.slots[:len(c.slots):len(c.slots)], c.taken...) {
		if box != 0 {
			see(box)
		}
	}
	m.seeData(see, []api.Datum{c.answer})
	if c.panicking {
		m.seeData(see, []api.Datum{c.thrown})
	}
	for _, l := range c.laid {
		m.seeData(see, l.held)
	}
	for _, x := range c.stack {
		switch x := x.(type) {
		case api.Datum:
			m.seeData(see, []api.Datum{x})
		case turn:
			m.seeData(see, x.held)
		case spot:
			if x.kind == atVariable {
				see(x.box)
			}
			m.seeData(see, []api.Datum{x.of, x.key})
		}
	}
}

func (m *player) seeData(see func(int), l []api.Datum) {
	for _, d := range l {
		if d.Ref.Object != 0 {
			see(d.Ref.Object)
		}
		m.seeData(see, d.Items)
	}
}
