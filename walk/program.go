package walk

import (
	"guise/api"
	"guise/types"
)

// program is what is played, and what is asked of its types.
type program struct {
	table   *types.Table
	shapes  map[string]shape
	found   map[question]api.Found
	held    map[wish]answer
	vars    []declared
	funcs   []*routine // declared functions, as they stand in the text
	methods map[question]*routine
	main    *routine
	numbers int // loops and switches so far
}

// shape is a struct type's fields, how each is embedded, and its zero.
type shape struct {
	fields []string
	embeds []int
	zero   *structure
}

// declared is a variable of the program.
type declared struct {
	at   int
	made expr
}

// programOf makes a program of its parts.
func programOf(p *part, table *types.Table) *program {
	out := &program{
		table:   table,
		shapes:  map[string]shape{},
		found:   map[question]api.Found{},
		held:    map[wish]answer{},
		methods: map[question]*routine{},
	}
	for _, name := range table.Names() {
		if zero, is := table.Zero(name); is {
			fields, _ := table.Fields(name)
			embeds, _ := table.Embeds(name)
			out.shapes[name] = shape{fields, embeds, zeroOf(zero).(*structure)}
		}
	}
	for _, d := range p.kids {
		out.declare(d)
	}
	for _, d := range p.kids {
		out.fill(d)
	}
	return out
}

// declare makes room for what is declared: it is used ahead of its declaration, too.
func (p *program) declare(d *part) {
	switch d.Kind {
	case api.NFunc:
		r := &routine{name: d.Text, params: len(d.kids[0].kids), slots: d.slots}
		p.funcs = append(p.funcs, r)
		if d.Text == "main" {
			p.main = r
		}
	case api.NMethodDecl:
		of, _ := d.kids[0].kids[0].wanted()
		name := of + "." + d.Text
		p.methods[question{name: of, what: d.Text}] = &routine{name: name, params: 1 + len(d.kids[1].kids), slots: d.slots}
	}
}

// fill reads what is declared.
func (p *program) fill(d *part) {
	switch d.Kind {
	case api.NFunc:
		p.funcs[d.use.Slot].body = newReader(p, nil).block(d.kids[1])
	case api.NMethodDecl:
		of, _ := d.kids[0].kids[0].wanted()
		p.methods[question{name: of, what: d.Text}].body = newReader(p, nil).block(d.kids[2])
	case api.NVar:
		p.vars = append(p.vars, declared{d.At, newReader(p, nil).expr(d.kids[0])})
	}
}
