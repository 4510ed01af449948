package certain

import (
	"guise/api"
	"guise/names"
)

// expression goes over an expression, each once, and answers its set.
func (p *program) expression(n *part) cell {
	switch n.Kind {
	case api.NName:
		return p.name(n)
	case api.NInt:
		return p.just(intName)
	case api.NFloat:
		return p.just(floatName)
	case api.NText:
		return p.just(textName)
	case api.NList:
		p.collect(p.lists, n.kids)
		return p.just(listName)
	case api.NMap:
		for _, pair := range n.kids {
			p.collect(p.keys, pair.kids[:1])
			p.collect(p.values, pair.kids[1:])
		}
		return p.just(mapName)
	case api.NMake:
		return p.made(n, n.Text)
	case api.NNew:
		return p.made(n.kids[0], "*"+n.kids[0].Text)
	case api.NLiteral:
		p.body(n)
		return p.just(funcName)
	case api.NNilOf:
		return p.just(typeName(n.Kids[0]))
	case api.NSelect:
		return p.selected(n)
	case api.NIndex:
		of := p.expression(n.kids[0])
		p.expression(n.kids[1])
		return p.element(of)
	case api.NSlice:
		return p.piece(n)
	case api.NCall:
		return p.call(n)
	case api.NAssert:
		return p.asserted(n)
	case api.NUnary:
		return p.unary(n)
	default:
		a, b := p.expression(n.kids[0]), p.expression(n.kids[1])
		return p.operation(n.Text, a, b)
	}
}

// name: a declared function that is named, and not called by that, may be called by anybody.
func (p *program) name(n *part) cell {
	switch n.use.Kind {
	case names.Routine:
		p.routines[n.use.Slot].loose = true
		return p.just(funcName)
	case names.Local, names.Global:
		return p.variable(n)
	}
	if n.Text == nilName {
		return p.just(nilName)
	}
	return p.just(boolName)
}

// collect lets a set have what some expressions have.
func (p *program) collect(to cell, list []*part) {
	for _, e := range list {
		p.flow(to, p.expression(e))
	}
}

func (p *program) made(n *part, as string) cell {
	for _, pair := range n.kids {
		p.collect(p.fields[pair.Text], pair.kids)
	}
	return p.just(as)
}

// isType: what a method is selected of is a type, or a pointer to one, and no value.
func isType(n *part) bool {
	if n.Kind == api.NUnary {
		n = n.kids[0]
	}
	return n.Kind == api.NName && n.use.Kind == names.TypeOf
}

func (p *program) selected(n *part) cell {
	if isType(n.kids[0]) {
		return p.just(funcName)
	}
	of := p.expression(n.kids[0])
	field, has := p.fields[n.Text]
	if !has {
		field = p.of()
	}
	return p.of(selected{of, field, n.Text, p.types})
}

// element is what an index leads to.
func (p *program) element(of cell) cell {
	return p.of(
		where{of, p.types.ofKinds(api.KList), p.lists},
		where{of, p.types.ofKinds(api.KMap), p.values},
		where{of, p.types.ofKinds(api.KText), p.just(intName)},
	)
}

func (p *program) piece(n *part) cell {
	of := p.expression(n.kids[0])
	for _, bound := range n.kids[1:] {
		p.statement(bound)
	}
	return p.of(those{of, p.types.ofKinds(api.KList, api.KText)})
}

func (p *program) asserted(n *part) cell {
	q := p.ask(n.At, typeName(n.Kids[1]), set{})
	of := p.expression(n.kids[0])
	p.questions[q].of = of
	return p.of(those{of, p.types.holding(typeName(n.Kids[1]))})
}

func (p *program) unary(n *part) cell {
	of := p.expression(n.kids[0])
	switch n.Text {
	case "-":
		return p.of(those{of, p.types.ofKinds(api.KInt, api.KFloat)})
	case "^":
		return p.of(those{of, p.types.ofKinds(api.KInt)})
	case "!":
		return p.of(those{of, p.types.ofKinds(api.KBool)})
	default:
		return p.of(behind{of, p.types})
	}
}

// operation: but for those that answer a bool, the type stays, as long as both have it.
func (p *program) operation(op string, a, b cell) cell {
	switch op {
	case "==", "!=", "<", "<=", ">", ">=", "&&", "||":
		return p.just(boolName)
	case "+":
		return p.of(common{a, b, p.types.ofKinds(api.KInt, api.KFloat, api.KText)})
	case "-", "*", "/":
		return p.of(common{a, b, p.types.ofKinds(api.KInt, api.KFloat)})
	default:
		return p.of(common{a, b, p.types.ofKinds(api.KInt)})
	}
}
