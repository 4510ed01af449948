package walk

import (
	"guise/api"
	"guise/names"
)

// reader reads a function's parts.
type reader struct {
	program *program
	around  *reader // of the function around a literal
	takes   []taking
	taken   map[variableOf]int // which of these is which variable
	targets []leaving
}

// variableOf is a variable: the function that has it, and its slot there.
type variableOf struct {
	owner *reader
	slot  int
}

// leaving is a loop or switch that a break may leave.
type leaving struct {
	label  string
	loop   bool
	number int
}

func newReader(p *program, around *reader) *reader {
	return &reader{program: p, around: around, taken: map[variableOf]int{}}
}

// take is the number of a variable of a function around, among those that this literal takes. What lies further out, the functions between take, too.
func (r *reader) take(v variableOf) int {
	if number, has := r.taken[v]; has {
		return number
	}
	t := taking{number: v.slot}
	if v.owner != r.around {
		t = taking{again: true, number: r.around.take(v)}
	}
	r.taken[v] = len(r.takes)
	r.takes = append(r.takes, t)
	return r.taken[v]
}

// outward is the function that lies so many functions out.
func (r *reader) outward(up int) *reader {
	for range up {
		r = r.around
	}
	return r
}

// enter begins a loop or a switch; what it answers ends it.
func (r *reader) enter(label string, loop bool) (number int, leave func()) {
	around := r.targets
	r.program.numbers++
	number = r.program.numbers
	r.targets = append(r.targets, leaving{label, loop, number})
	return number, func() { r.targets = around }
}

// target is the innermost loop or switch that bears a label, or any, if there is none; a loop alone, if that is wanted.
func (r *reader) target(label string, loop bool) int {
	number := 0
	for _, t := range r.targets {
		if (label == "" || label == t.label) && (t.loop || !loop) {
			number = t.number
		}
	}
	return number
}

func (r *reader) exprs(parts []*part) []expr {
	out := make([]expr, len(parts))
	for i, p := range parts {
		out[i] = r.expr(p)
	}
	return out
}

// name is what a name stands for, where it is an expression.
func (r *reader) name(p *part) expr {
	switch p.use.Kind {
	case names.Local:
		if p.use.Up > 0 {
			return outer{r.take(variableOf{r.outward(p.use.Up), p.use.Slot})}
		}
		return local{p.use.Slot}
	case names.Global:
		return global{p.use.Slot}
	case names.Routine:
		return constant{funcOf(r.program.funcs[p.use.Slot])}
	}
	if p.Text == "nil" {
		return constant{}
	}
	return constant{boolOf(p.Text == "true")}
}

// place is what finds a place of that form.
func (r *reader) place(p *part) placing {
	switch p.Kind {
	case api.NName:
		return r.variable(p)
	case api.NIndex:
		return findIndexed{r.indexed(p)}
	case api.NSelect:
		return r.field(p)
	}
	return findTarget{r.expr(p.kids[0])}
}

func (r *reader) variable(p *part) placing {
	switch {
	case p.use.Kind == names.Global:
		return findGlobal{p.use.Slot}
	case p.use.Up > 0:
		return findOuter{r.take(variableOf{r.outward(p.use.Up), p.use.Slot})}
	}
	return findLocal{p.use.Slot}
}

// field is what finds a field: of a place, if it is written like one.
func (r *reader) field(p *part) placing {
	of := p.kids[0]
	if of.isType() || of.isPointerType() {
		return findNone{}
	}
	if isPlace(of) {
		return findField{r.place(of), p.Text}
	}
	return findFieldOf{r.expr(of), p.Text}
}

func isPlace(p *part) bool {
	switch p.Kind {
	case api.NName:
		return p.use.Kind == names.Local || p.use.Kind == names.Global
	case api.NUnary:
		return p.Text == "*"
	}
	return p.Kind == api.NIndex || p.Kind == api.NSelect
}
