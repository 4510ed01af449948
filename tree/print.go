package tree

import (
	"strconv"

	"guise/api"
)

// printer writes trees that are right.
type printer struct {
	out  []byte
	in   int  // tabs ahead of a line
	bare bool // in the head of a statement, within no brackets
}

// isFull: what is longer than a source is not told, and need not be written on.
func (p *printer) isFull() bool { return len(p.out) > api.MaxSource }

func (p *printer) put(parts ...string) {
	for _, part := range parts {
		if !p.isFull() {
			p.out = append(p.out, part...)
		}
	}
}

// line writes a line of its own.
func (p *printer) line(write func()) {
	p.indent()
	write()
	p.put("\n")
}

func (p *printer) indent() {
	for range p.in {
		p.put("\t")
	}
}

// inside writes lines that stand one tab further in, and the bracket behind them.
func (p *printer) inside(nodes []api.Node, write func(api.Node)) {
	p.put("{\n")
	p.in++
	for _, n := range nodes {
		p.line(func() { write(n) })
	}
	p.in--
	p.indent()
	p.put("}")
}

// list writes parts with commas between.
func (p *printer) list(nodes []api.Node, write func(api.Node)) {
	for i, n := range nodes {
		if i > 0 {
			p.put(", ")
		}
		write(n)
	}
}

// own writes a tree by its own node.
func (p *printer) own(n api.Node) {
	switch {
	case n.Kind == api.NProgram:
		for _, kid := range n.Kids {
			p.line(func() { p.declaration(kid) })
		}
	case declaration.takes(n.Kind):
		p.declaration(n)
	case structPart.takes(n.Kind):
		p.structPart(n)
	case n.Kind == api.NMethod:
		p.protocolPart(n)
	case n.Kind == api.NReceiver:
		p.receiver(n)
	case n.Kind == api.NParams:
		p.list(n.Kids, p.expression)
	case n.Kind == api.NPointer:
		p.typeName(n)
	case n.Kind == api.NNone:
	case statement.takes(n.Kind):
		p.statement(n)
	case n.Kind == api.NCase:
		p.oneCase(n)
	case n.Kind == api.NPair:
		p.pair(n)
	default:
		p.expression(n)
	}
}

func (p *printer) declaration(n api.Node) {
	switch n.Kind {
	case api.NType:
		p.put("type ", n.Text, " = ", n.Kids[0].Text)
	case api.NStruct:
		p.put("type ", n.Text, " struct ")
		p.inside(n.Kids, p.structPart)
	case api.NProtocol:
		p.put("protocol ", n.Text, " ")
		p.inside(n.Kids, p.protocolPart)
	case api.NFunc:
		p.put("func ", n.Text)
		p.function(n.Kids[0], n.Kids[1])
	case api.NMethodDecl:
		p.put("func (")
		p.receiver(n.Kids[0])
		p.put(") ", n.Text)
		p.function(n.Kids[1], n.Kids[2])
	case api.NVar:
		p.put("var ", n.Text, " = ")
		p.expression(n.Kids[0])
	}
}

func (p *printer) structPart(n api.Node) {
	switch n.Kind {
	case api.NEmbed:
		p.put(".")
	case api.NEmbedPointer:
		p.put(".*")
	}
	p.put(n.Text)
}

func (p *printer) protocolPart(n api.Node) {
	p.put(n.Text)
	if n.Kind == api.NMethod {
		p.put("(", strconv.Itoa(n.N), ")")
	}
}

func (p *printer) receiver(n api.Node) {
	p.put(n.Text, " ")
	p.typeName(n.Kids[0])
}

func (p *printer) typeName(n api.Node) {
	if n.Kind == api.NPointer {
		p.put("*", n.Kids[0].Text)
		return
	}
	p.put(n.Text)
}

// function writes what follows a function's name.
func (p *printer) function(params, body api.Node) {
	p.put("(")
	p.list(params.Kids, p.expression)
	p.put(") ")
	p.block(body)
}

// block is a bracket for what stands in it, also in a head.
func (p *printer) block(n api.Node) {
	p.bracketed("", "", func() { p.inside(n.Kids, p.statement) })
}
