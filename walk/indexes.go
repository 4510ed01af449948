package walk

import (
	"strconv"
)

type indexed struct{ of, at expr }

func (e indexed) parts(f *frame) (of, at value) {
	of = e.of.eval(f)
	return of, e.at.eval(f)
}

func (e indexed) eval(f *frame) value {
	r := f.run
	of, at := e.parts(f)
	switch x := of.(type) {
	case list:
		return x.items[r.index(of, at, len(x.items))]
	case text:
		return intOf(int(x.s[r.index(of, at, len(x.s))]))
	case mapping:
		v, _ := r.lookUp(x, at)
		return v
	}
	panic(r.noIndex(of, at))
}

func (e indexed) pair(f *frame) (value, bool) {
	of, at := e.parts(f)
	m, is := of.(mapping)
	if !is {
		panic(f.run.noIndex(of, at))
	}
	return f.run.lookUp(m, at)
}

// lookUp is what lies under a key, and whether something does.
func (r *run) lookUp(m mapping, key value) (value, bool) {
	r.mayKey(key)
	if m.store == nil {
		return nil, false
	}
	if e := m.store.find(key); e != nil {
		return e.held, true
	}
	return nil, false
}

// noIndex: of what has no such elements there are none.
func (r *run) noIndex(of, at value) thrown {
	return r.fault("operand", "[] "+nameOf(of)+" "+nameOf(at))
}

// index is the number of an element, of which there are so many.
func (r *run) index(of, at value, length int) int {
	i, is := at.(integer)
	if !is {
		panic(r.noIndex(of, at))
	}
	if i.n < 0 || i.n >= length {
		panic(r.fault("range", "index "+strconv.Itoa(i.n)+" of "+strconv.Itoa(length)))
	}
	return i.n
}

// sliced has three bounds; nil: one that is left out.
type sliced struct {
	of     expr
	bounds [3]expr
}

func (e sliced) eval(f *frame) value {
	of := e.of.eval(f)
	var bounds [3]value
	for i, b := range e.bounds {
		if b != nil {
			bounds[i] = b.eval(f)
		}
	}
	switch x := of.(type) {
	case list:
		n := f.run.bounds(e, of, bounds, len(x.items), cap(x.items))
		x.items = x.items[n[0]:n[1]:n[2]]
		return x
	case text:
		if e.bounds[2] == nil {
			n := f.run.bounds(e, of, bounds, len(x.s), len(x.s))
			x.s = x.s[n[0]:n[1]]
			return x
		}
	}
	panic(f.run.fault("operand", "[:] "+nameOf(of)))
}

// bounds are those of a piece of something that has a length, and may be reached up to most.
func (r *run) bounds(e sliced, of value, bounds [3]value, length, most int) [3]int {
	out := [3]int{0, length, most}
	for i, b := range bounds {
		if e.bounds[i] == nil {
			continue
		}
		n, is := b.(integer)
		if !is {
			panic(r.fault("operand", "[:] "+nameOf(of)+" "+nameOf(b)))
		}
		out[i] = n.n
	}
	if out[0] < 0 || out[0] > out[1] || out[1] > out[2] || out[2] > most {
		panic(r.fault("range", boundsText(e, out)+" of "+strconv.Itoa(most)))
	}
	return out
}

func boundsText(e sliced, bounds [3]int) string {
	s := "slice " + strconv.Itoa(bounds[0]) + " " + strconv.Itoa(bounds[1])
	if e.bounds[2] != nil {
		s += " " + strconv.Itoa(bounds[2])
	}
	return s
}
