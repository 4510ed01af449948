package tree

import "guise/api"

func (p *printer) statement(n api.Node) {
	switch n.Kind {
	case api.NBlock:
		p.block(n)
	case api.NDefine:
		p.put(n.Text, " := ")
		p.expression(n.Kids[0])
	case api.NDefineTwo:
		p.two(n, " := ")
	case api.NAssignTwo:
		p.two(n, " = ")
	case api.NAssign:
		p.expression(n.Kids[0])
		p.put(" ", n.Text, " ")
		p.expression(n.Kids[1])
	case api.NIf:
		p.choice(n)
	case api.NFor, api.NRange:
		p.loop(n)
	case api.NSwitch, api.NTypeSwitch:
		p.choices(n)
	case api.NReturn:
		p.put("return")
		p.unlessNone(" ", n.Kids[0], p.expression)
	case api.NDefer:
		p.put("defer ")
		p.expression(n.Kids[0])
	case api.NDo:
		p.expression(n.Kids[0])
	case api.NBreak:
		p.jump("break", n)
	case api.NContinue:
		p.jump("continue", n)
	case api.NFall:
		p.put("fallthrough")
	case api.NStep:
		p.expression(n.Kids[0])
		p.put(n.Text)
	}
}

// unlessNone writes a part that may be left out, and what stands ahead of it then.
func (p *printer) unlessNone(ahead string, n api.Node, write func(api.Node)) {
	if n.Kind != api.NNone {
		p.put(ahead)
		write(n)
	}
}

func (p *printer) two(n api.Node, sign string) {
	p.put(n.Kids[0].Text, ", ", n.Kids[1].Text, sign)
	p.expression(n.Kids[2])
}

func (p *printer) jump(word string, n api.Node) {
	p.put(word)
	if n.Text != "" {
		p.put(" ", n.Text)
	}
}

func (p *printer) label(n api.Node) {
	if n.Text != "" {
		p.put(n.Text, ": ")
	}
}

// head writes what stands between a statement's word and its block, where a `{` would begin that block.
func (p *printer) head(n api.Node) {
	p.bare = true
	p.expression(n)
	p.bare = false
}

func (p *printer) choice(n api.Node) {
	p.put("if ")
	p.head(n.Kids[0])
	p.put(" ")
	p.block(n.Kids[1])
	p.unlessNone(" else ", n.Kids[2], p.statement)
}

func (p *printer) loop(n api.Node) {
	p.label(n)
	p.put("for")
	if n.Kind == api.NFor {
		p.unlessNone(" ", n.Kids[0], p.head)
	} else {
		p.put(" ", item(n.Kids[0]))
		if n.Kids[1].Kind != api.NNone {
			p.put(", ", item(n.Kids[1]))
		}
		p.put(" in ")
		p.head(n.Kids[2])
	}
	p.put(" ")
	p.block(n.Kids[len(n.Kids)-1])
}

func item(n api.Node) string {
	if n.Kind == api.NNone {
		return "_"
	}
	return n.Text
}

func (p *printer) choices(n api.Node) {
	p.label(n)
	p.put("switch")
	cases := n.Kids[1:]
	if n.Kind == api.NSwitch {
		p.unlessNone(" ", n.Kids[0], p.head)
	} else {
		p.put(" ")
		p.typeHead(n.Kids[0], n.Kids[1])
		cases = n.Kids[2:]
	}
	p.put(" {\n")
	for _, kid := range cases {
		p.oneCase(kid)
	}
	p.indent()
	p.put("}")
}

func (p *printer) typeHead(variable, asked api.Node) {
	if variable.Kind != api.NNone {
		p.put(variable.Text, " := ")
	}
	p.bare = true
	p.first(asked)
	p.bare = false
	p.put(".(type)")
}

// oneCase writes a case's lines; its statements alone are further in than the switch.
func (p *printer) oneCase(n api.Node) {
	p.line(func() { p.caseHead(n.Kids[0]) })
	p.in++
	for _, kid := range n.Kids[1].Kids {
		p.line(func() { p.statement(kid) })
	}
	p.in--
}

func (p *printer) caseHead(list api.Node) {
	if list.Kind == api.NNone {
		p.put("default:")
		return
	}
	p.put("case ")
	p.list(list.Kids, p.caseItem)
	p.put(":")
}

func (p *printer) caseItem(n api.Node) {
	if n.Kind == api.NPointer {
		p.typeName(n)
		return
	}
	p.expression(n)
}
