package certain

import (
	"strings"

	"guise/api"
)

func (p *program) statement(n *part) {
	switch n.Kind {
	case api.NDefine:
		p.flow(p.variable(n), p.expression(n.kids[0]))
	case api.NDefineTwo, api.NAssignTwo:
		p.two(n)
	case api.NAssign:
		p.assign(n)
	case api.NRange:
		p.ranged(n)
	case api.NSwitch:
		p.switched(n)
	case api.NTypeSwitch:
		p.typeSwitched(n)
	case api.NReturn:
		if n.kids[0].Kind != api.NNone {
			p.flow(p.inside[len(p.inside)-1].answer, p.expression(n.kids[0]))
		}
	case api.NBlock, api.NIf, api.NFor, api.NDefer, api.NDo, api.NStep:
		for _, kid := range n.kids {
			p.statement(kid)
		}
	case api.NBreak, api.NContinue, api.NFall, api.NNone:
	default:
		p.expression(n)
	}
}

// two: the second variable says whether there is something; where there is nothing, the first one is nil.
func (p *program) two(n *part) {
	first, second := p.variable(n.kids[0]), p.variable(n.kids[1])
	e := n.kids[2]
	of := p.expression(e)
	if e.Kind == api.NIndex {
		of = p.values
	}
	p.flow(first, of)
	p.flow(first, p.just(nilName))
	p.flow(second, p.just(boolName))
}

func (p *program) assign(n *part) {
	place, op := n.kids[0], strings.TrimSuffix(n.Text, "=")
	switch place.Kind {
	case api.NName:
		to := p.variable(place)
		p.flow(to, p.laid(to, op, n.kids[1]))
	case api.NSelect:
		p.assignField(place, op, n.kids[1])
	case api.NIndex:
		p.assignElement(place, op, n.kids[1])
	default:
		p.expression(place)
		p.expression(n.kids[1])
	}
}

// laid is what is laid down at a place: of an operation what comes of it, and of what is there.
func (p *program) laid(there cell, op string, e *part) cell {
	value := p.expression(e)
	if op == "" {
		return value
	}
	return p.operation(op, there, value)
}

// assignField: a method of a type is no place, and a name that no struct type has as a field has no set.
func (p *program) assignField(place *part, op string, e *part) {
	there := p.expression(place)
	value := p.laid(there, op, e)
	if to, has := p.fields[place.Text]; has && !isType(place.kids[0]) {
		p.flow(to, value)
	}
}

func (p *program) assignElement(place *part, op string, e *part) {
	of, index := p.expression(place.kids[0]), p.expression(place.kids[1])
	value := p.laid(p.element(of), op, e)
	p.take(p.lists, where{of, p.types.ofKinds(api.KList), value})
	p.take(p.values, where{of, p.types.ofKinds(api.KMap), value})
	p.take(p.keys, where{of, p.types.ofKinds(api.KMap), index})
}

// ranged: what a loop goes over says what its two names are.
func (p *program) ranged(n *part) {
	of := p.expression(n.kids[2])
	for _, row := range []struct {
		kind          int
		first, second cell
	}{
		{api.KInt, p.just(intName), p.just(nilName)},
		{api.KList, p.just(intName), p.lists},
		{api.KText, p.just(intName), p.just(intName)},
		{api.KMap, p.keys, p.values},
	} {
		for i, from := range []cell{row.first, row.second} {
			if name := n.kids[i]; name.Kind != api.NNone {
				p.take(p.variable(name), where{of, p.types.ofKinds(row.kind), from})
			}
		}
	}
	p.statement(n.kids[3])
}

// switched: the list of a case is no list that is made.
func (p *program) switched(n *part) {
	p.statement(n.kids[0])
	for _, c := range n.kids[1:] {
		for _, value := range c.kids[0].kids {
			p.expression(value)
		}
		p.statement(c.kids[1])
	}
}

// typeSwitched: what comes to a case holds no type ahead of it; what comes to the default none of all.
func (p *program) typeSwitched(n *part) {
	of := p.expression(n.kids[1])
	cases := n.kids[2:]
	var all, ahead set
	for _, c := range cases {
		all = all.with(p.wanted(c))
	}
	for _, c := range cases {
		p.askCase(c, of, ahead)
		comes := p.wanted(c).without(ahead)
		if c.kids[0].Kind == api.NNone {
			comes = p.types.every.without(all)
		}
		if n.kids[0].Kind != api.NNone {
			p.take(p.variable(c), those{of, comes})
		}
		ahead = ahead.with(p.wanted(c))
		p.statement(c.kids[1])
	}
}

// wanted are the types that hold one of a case's.
func (p *program) wanted(c *part) set {
	var s set
	for _, want := range c.Kids[0].Kids {
		s = s.with(p.types.holding(typeName(want)))
	}
	return s
}
