package compile

import (
	"strings"

	"guise/api"
	"guise/code"
	"guise/names"
	"guise/types"
)

const (
	outermost   = -1 // Around of what stands in no function
	literalName = "func"
	mainName    = "main"
)

// program is one that is being laid down.
type program struct {
	table    *types.Table
	funcs    []*function // by their numbers; the first one is the program's beginning
	routines []int       // the numbers of declared functions, methods left out, as they stand in the text
	globals  []string
}

// programOf is the code of a program that may be.
func programOf(n api.Node, bound names.Bound, table *types.Table) code.Program {
	p := &program{table: table, funcs: make([]*function, 1+len(bound.Funcs))}
	beginning := p.newFunction(0, nil)
	all := partsOf(n, bound)
	main := 0
	for _, d := range all.kids { // they are used ahead of their declarations, too
		if d.Kind == api.NFunc {
			p.routines = append(p.routines, d.number)
			if d.Text == mainName {
				main = d.number
			}
		}
	}
	for _, d := range all.kids {
		p.declare(d, beginning)
	}
	beginning.lay(0, code.Inst{Op: code.OpLiteral, A: main})
	beginning.lay(0, code.Inst{Op: code.OpCall})
	beginning.lay(0, code.Inst{Op: code.OpReturn})
	return p.whole()
}

// declare lays down what a declaration does: a function's code, or that of a variable, in the program's beginning.
func (p *program) declare(d *part, beginning *function) {
	switch d.Kind {
	case api.NVar:
		p.globals = append(p.globals, strings.Clone(d.Text))
		beginning.begin(d)
		beginning.value(d.kids[0])
		beginning.lay(d.At, code.Inst{Op: code.OpStoreGlobal, A: d.use.Slot})
	case api.NFunc:
		p.function(d, nil, d.Text, len(d.kids[0].kids))
	case api.NMethodDecl:
		of := d.kids[0].kids[0]
		if of.Kind == api.NPointer {
			of = of.kids[0]
		}
		p.function(d, nil, of.Text+"."+d.Text, 1+len(d.kids[1].kids))
	}
}

// function lays down one; its body is its last part. around is the one in which a literal stands.
func (p *program) function(d *part, around *function, name string, params int) {
	f := p.newFunction(d.number, around)
	f.head.Name, f.head.Params, f.head.Slots = strings.Clone(name), params, d.slots
	f.block(d.kids[len(d.kids)-1])
	f.lay(d.At, code.Inst{Op: code.OpNil})
	f.lay(d.At, code.Inst{Op: code.OpReturn})
}

func (p *program) newFunction(number int, around *function) *function {
	f := &function{program: p, number: number, around: around, took: map[int]int{}}
	f.head.Around = outermost
	if around != nil {
		f.head.Around = around.number
	}
	p.funcs[number] = f
	return f
}

// whole is what was laid down. What a function takes is known only when all within it is.
func (p *program) whole() code.Program {
	out := code.Program{Globals: p.globals}
	for _, f := range p.funcs {
		f.head.Code = f.all
		out.Funcs = append(out.Funcs, f.head)
	}
	return out
}
