package certain

import (
	"guise/api"
	"guise/names"
	"guise/types"
)

// program is the sets of a program, and what is asked of them.
type program struct {
	graph
	types     *catalog
	constants map[string]cell // sets of one type, by its name
	globals   []cell
	functions []*function
	routines  []*function // the declared functions, by their numbers
	inside    []*function // the functions around the part at hand
	fields    map[string]cell
	lists     cell // what lists hold
	keys      cell // what maps hold
	values    cell
	panics    cell
	recovered cell
	given     map[argument]cell // what other calls than those of declared functions give
	answered  map[int]cell      // and what they can be answered, by how many parts they have
	questions []question
}

// function is anything that has parameters. The method of fault that is there from the beginning is one, too.
type function struct {
	slots  []cell // its variables
	params []cell // those of them to which a call's parts come
	method bool
	loose  bool // it may be called by calls that do not name it
	answer cell
}

// argument is a part of a call, by the number of parts.
type argument struct{ parts, number int }

// part is a node, and what its name stands for.
type part struct {
	api.Node
	use  names.Use
	code *function
	kids []*part
}

func programOf(n api.Node, bound names.Bound, table *types.Table) *program {
	p := &program{
		graph: newGraph(), types: catalogOf(table), constants: map[string]cell{}, fields: map[string]cell{},
		given: map[argument]cell{}, answered: map[int]cell{},
	}
	p.begin()
	top := (&reader{program: p, bound: bound}).read(n)
	for _, d := range top.kids {
		p.declaration(d)
	}
	for _, f := range p.functions {
		if f.loose {
			p.loosen(f)
		}
	}
	p.settle()
	return p
}

// begin makes the sets that no part of the tree has for itself.
func (p *program) begin() {
	none := p.types.just(nilName)
	p.lists, p.keys, p.values = p.fresh(none), p.fresh(set{}), p.fresh(none)
	p.panics = p.fresh(p.types.just("*" + faultName))
	p.recovered = p.fresh(none)
	p.flow(p.recovered, p.panics)
	for _, name := range p.types.table.Names() {
		p.structure(name)
	}
	p.grow(p.fields["word"], p.types.just(textName))
	p.grow(p.fields["more"], p.types.just(textName))
	p.functions = append(p.functions, &function{method: true, loose: true, answer: p.just(textName)})
}

// structure: fields of one name have one set, whichever struct types they are of.
func (p *program) structure(name string) {
	fields, _ := p.types.table.Fields(name)
	embeds, _ := p.types.table.Embeds(name)
	for i, field := range fields {
		first := nilName
		switch embeds[i] {
		case types.EmbedValue:
			first = field
		case types.EmbedPointer:
			first = "*" + field
		}
		if _, has := p.fields[field]; !has {
			p.fields[field] = p.fresh(set{})
		}
		p.grow(p.fields[field], p.types.just(first))
	}
}

// reader makes parts of a tree, and the variables and functions of the program; so all are there ahead of what uses them.
type reader struct {
	*program
	bound names.Bound
	count int // nodes that were come to
}

func (r *reader) read(n api.Node) *part {
	p := &part{Node: n}
	if len(r.bound.Uses) > 0 && r.bound.Uses[0].Node == r.count {
		p.use, r.bound.Uses = r.bound.Uses[0], r.bound.Uses[1:]
	}
	r.count++
	switch n.Kind {
	case api.NVar:
		r.globals = append(r.globals, r.fresh(r.types.just(nilName)))
	case api.NFunc, api.NMethodDecl, api.NLiteral:
		p.code = r.function(n)
	}
	for _, kid := range n.Kids {
		p.kids = append(p.kids, r.read(kid))
	}
	return p
}

// function: its receiver and its parameters are its first variables.
func (r *reader) function(n api.Node) *function {
	f := &function{method: n.Kind == api.NMethodDecl, loose: n.Kind != api.NFunc, answer: r.fresh(r.types.just(nilName))}
	for range r.bound.Funcs[0].Slots {
		f.slots = append(f.slots, r.fresh(set{}))
	}
	r.bound.Funcs = r.bound.Funcs[1:]
	r.functions = append(r.functions, f)
	switch n.Kind {
	case api.NFunc:
		r.routines = append(r.routines, f)
		f.params = f.slots[:len(n.Kids[0].Kids)]
	case api.NMethodDecl:
		r.grow(f.slots[0], r.types.just(typeName(n.Kids[0].Kids[0])))
		f.params = f.slots[1 : 1+len(n.Kids[1].Kids)]
	case api.NLiteral:
		f.params = f.slots[:len(n.Kids[0].Kids)]
	}
	return f
}

// flow lets a set have all that another one has.
func (p *program) flow(to, from cell) { p.take(to, those{from, p.types.every}) }

// of is a new set of what comes of some nodes.
func (p *program) of(nodes ...node) cell {
	c := p.fresh(set{})
	for _, n := range nodes {
		p.take(c, n)
	}
	return c
}

// just is the set of one type.
func (p *program) just(name string) cell {
	c, has := p.constants[name]
	if !has {
		c = p.fresh(p.types.just(name))
		p.constants[name] = c
	}
	return c
}

// declaration: types and protocols have no sets of their own.
func (p *program) declaration(n *part) {
	switch n.Kind {
	case api.NVar:
		p.flow(p.globals[n.use.Slot], p.expression(n.kids[0]))
	case api.NFunc, api.NMethodDecl:
		p.body(n)
	}
}

// body goes over a function's block, which is its last Kid.
func (p *program) body(n *part) {
	p.inside = append(p.inside, n.code)
	p.statement(n.kids[len(n.kids)-1])
	p.inside = p.inside[:len(p.inside)-1]
}

// variable is that for which a node stands.
func (p *program) variable(n *part) cell {
	if n.use.Kind == names.Global {
		return p.globals[n.use.Slot]
	}
	return p.inside[len(p.inside)-1-n.use.Up].slots[n.use.Slot]
}
