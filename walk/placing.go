package walk

// findLocal, findOuter and findGlobal find a variable.
type findLocal struct{ slot int }

type findOuter struct{ number int }

type findGlobal struct{ number int }

func (p findLocal) find(f *frame) place  { return f.slots[p.slot] }
func (p findOuter) find(f *frame) place  { return f.taken[p.number] }
func (p findGlobal) find(f *frame) place { return f.run.globals[p.number] }

// findTarget finds what a pointer leads to.
type findTarget struct{ of expr }

func (p findTarget) find(f *frame) place { return target{f.run.follow(p.of.eval(f))} }

// findIndexed finds an element, or a key.
type findIndexed struct{ indexed }

func (p findIndexed) find(f *frame) place {
	r := f.run
	of, at := p.parts(f)
	switch x := of.(type) {
	case list:
		return element{x.items, r.index(of, at, len(x.items))}
	case mapping:
		if x.store == nil {
			panic(r.fault("nil", "map"))
		}
		r.mayKey(at)
		return underKey{x.store, at}
	}
	panic(r.noIndex(of, at))
}

// findField finds a field of what stands at a place.
type findField struct {
	of   placing
	name string
}

func (p findField) find(f *frame) place {
	at := p.of.find(f)
	return f.run.fieldOf(at.read(f.run), at, p.name)
}

// findFieldOf finds a field of a value that is no place: so of what a pointer leads to.
type findFieldOf struct {
	of   expr
	name string
}

func (p findFieldOf) find(f *frame) place { return f.run.fieldOf(p.of.eval(f), nil, p.name) }

// findNone is a method expression's: that is no place.
type findNone struct{}

func (p findNone) find(f *frame) place { panic(f.run.fault("place", "")) }
