package tree

import (
	"guise/api"
	"guise/lex"
)

// level is how close an expression's parts hold together.
func level(n api.Node) int {
	switch n.Kind {
	case api.NBinary:
		return binaryLevel(n.Text)
	case api.NUnary, api.NNew:
		return unaryLevel
	}
	return highestLevel
}

// expression writes one that asks for no brackets where it stands, but for those of a head.
func (p *printer) expression(n api.Node) { p.part(n, false) }

// first writes one with something right behind it that binds closest.
func (p *printer) first(n api.Node) { p.part(n, level(n) < highestLevel) }

// part writes one in brackets, if it needs them, or would begin a statement's block in a head.
func (p *printer) part(n api.Node, needed bool) {
	if needed || p.bare && (n.Kind == api.NMake || n.Kind == api.NNew) {
		p.bracketed("(", ")", func() { p.plain(n) })
		return
	}
	p.plain(n)
}

// bracketed writes something within brackets: there nothing is taken for a statement's block.
func (p *printer) bracketed(open, shut string, write func()) {
	bare := p.bare
	p.bare = false
	p.put(open)
	write()
	p.put(shut)
	p.bare = bare
}

// plain writes an expression without brackets around it.
func (p *printer) plain(n api.Node) {
	switch n.Kind {
	case api.NName, api.NInt, api.NFloat:
		p.put(n.Text)
	case api.NText:
		p.text(n.Text)
	case api.NList:
		p.bracketed("[", "]", func() { p.list(n.Kids, p.expression) })
	case api.NMap:
		p.bracketed("map{", "}", func() { p.list(n.Kids, p.pair) })
	case api.NMake:
		p.bracketed(n.Text+"{", "}", func() { p.list(n.Kids, p.pair) })
	case api.NNew:
		p.put("&")
		p.plain(n.Kids[0])
	case api.NLiteral:
		p.put("func")
		p.function(n.Kids[0], n.Kids[1])
	case api.NNilOf:
		p.put("nil(")
		p.typeName(n.Kids[0])
		p.put(")")
	case api.NUnary:
		p.put(n.Text)
		p.part(n.Kids[0], level(n.Kids[0]) < unaryLevel || n.Text == "-" && n.Kids[0].Text == "-")
	case api.NBinary:
		p.part(n.Kids[0], level(n.Kids[0]) < level(n))
		p.put(" ", n.Text, " ")
		p.part(n.Kids[1], level(n.Kids[1]) <= level(n))
	default:
		p.post(n)
	}
}

// text leaves a literal out where there is no room for it anyway: to quote it is work.
func (p *printer) text(s string) {
	if !p.isFull() {
		p.put(lex.Quote(s))
	}
}

// post writes what stands behind its first part.
func (p *printer) post(n api.Node) {
	asked := n.Kids[0]
	switch n.Kind {
	case api.NSelect:
		p.first(asked)
		p.put(".", n.Text)
	case api.NIndex:
		p.first(asked)
		p.bracketed("[", "]", func() { p.expression(n.Kids[1]) })
	case api.NSlice:
		p.first(asked)
		p.bracketed("[", "]", func() { p.bounds(n.Kids[1], n.Kids[2], n.Kids[3]) })
	case api.NCall:
		// nil with a bracket behind it would be the nil of a type.
		p.part(asked, level(asked) < highestLevel || asked.Kind == api.NName && asked.Text == "nil")
		p.bracketed("(", ")", func() { p.list(n.Kids[1:], p.expression) })
	case api.NAssert:
		p.first(asked)
		p.put(".(")
		p.typeName(n.Kids[1])
		p.put(")")
	}
}

func (p *printer) bounds(from, to, room api.Node) {
	p.unlessNone("", from, p.expression)
	p.put(":")
	p.unlessNone("", to, p.expression)
	p.unlessNone(":", room, p.expression)
}

func (p *printer) pair(n api.Node) {
	if n.Text != "" {
		p.put(n.Text)
	} else {
		p.expression(n.Kids[0])
	}
	p.put(": ")
	p.expression(n.Kids[len(n.Kids)-1])
}
