package certain

import (
	"guise/api"
	"guise/names"
)

// call: what is called is seen from its name, if that stands for no variable.
func (p *program) call(n *part) cell {
	called, parts := n.kids[0], n.kids[1:]
	if called.Kind == api.NName {
		switch called.use.Kind {
		case names.TypeOf:
			p.each(parts)
			return p.just(called.Text)
		case names.Builtin:
			return p.builtin(called.Text, parts)
		case names.Routine:
			return p.callRoutine(p.routines[called.use.Slot], parts)
		}
	}
	return p.callOther(called, parts)
}

// each goes over some expressions of which nothing is taken.
func (p *program) each(list []*part) []cell {
	var out []cell
	for _, e := range list {
		out = append(out, p.expression(e))
	}
	return out
}

func (p *program) callRoutine(f *function, parts []*part) cell {
	for i, from := range p.each(parts) {
		if len(parts) == len(f.params) {
			p.flow(f.params[i], from)
		}
	}
	return f.answer
}

// callOther: any loose function may be called, if the number of parts fits.
func (p *program) callOther(called *part, parts []*part) cell {
	p.expression(called)
	for i, from := range p.each(parts) {
		p.flow(p.argument(len(parts), i), from)
	}
	return p.answer(len(parts))
}

// argument is what calls of so many parts have as one of these.
func (p *program) argument(parts, number int) cell {
	a := argument{parts, number}
	c, has := p.given[a]
	if !has {
		c = p.fresh(set{})
		p.given[a] = c
	}
	return c
}

// answer is what calls of so many parts can be answered.
func (p *program) answer(parts int) cell {
	c, has := p.answered[parts]
	if !has {
		c = p.fresh(set{})
		p.answered[parts] = c
	}
	return c
}

// loosen lets a function be called by all calls that do not name one; a method also with its receiver as the first part.
func (p *program) loosen(f *function) {
	ahead := 0
	if f.method {
		ahead = 1
	}
	for more := range ahead + 1 {
		parts := len(f.params) + more
		for i, param := range f.params {
			p.flow(param, p.argument(parts, i+more))
		}
		p.flow(p.answer(parts), f.answer)
	}
}

func (p *program) builtin(name string, parts []*part) cell {
	cells := p.each(parts)
	switch name {
	case "append":
		return p.appended(cells)
	case "cap", "copy", "len":
		return p.just(intName)
	case "make":
		return p.just(listName)
	case "panic":
		for _, c := range cells {
			p.flow(p.panics, c)
		}
		return p.of()
	case "recover":
		return p.recovered
	case "show", "typeof":
		return p.just(textName)
	default:
		return p.just(nilName)
	}
}

func (p *program) appended(cells []cell) cell {
	if len(cells) == 0 {
		return p.of()
	}
	for _, c := range cells[1:] {
		p.flow(p.lists, c)
	}
	return p.of(those{cells[0], p.types.ofKinds(api.KList)})
}
