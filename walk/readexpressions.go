package walk

import (
	"slices"

	"guise/api"
	"guise/names"
	"guise/number"
)

// expr reads an expression.
func (r *reader) expr(p *part) expr {
	switch p.Kind {
	case api.NName:
		return r.name(p)
	case api.NInt:
		d, _ := number.Int(p.Text)
		return constant{valueOf(d)}
	case api.NFloat:
		d, _ := number.Float(p.Text)
		return constant{valueOf(d)}
	case api.NText:
		return constant{textOf(p.Text)}
	case api.NList:
		return listMade{r.exprs(p.kids)}
	case api.NMap:
		return r.mapMade(p)
	case api.NMake:
		return r.structMade(p)
	case api.NNew:
		return objectMade{r.structMade(p.kids[0])}
	case api.NLiteral:
		return r.literal(p)
	case api.NNilOf:
		return constant{r.nilOf(p.kids[0])}
	}
	return r.composed(p)
}

// composed reads an expression that is made of others.
func (r *reader) composed(p *part) expr {
	switch p.Kind {
	case api.NSelect:
		return r.selection(p, false)
	case api.NIndex:
		return r.indexed(p)
	case api.NSlice:
		return r.sliced(p)
	case api.NCall:
		return r.call(p)
	case api.NAssert:
		return r.assertion(p)
	case api.NUnary:
		if p.Text == "*" {
			return followed{r.expr(p.kids[0])}
		}
		return unary{p.Text, r.expr(p.kids[0])}
	}
	return r.binary(p)
}

func (r *reader) binary(p *part) expr {
	a, b := r.expr(p.kids[0]), r.expr(p.kids[1])
	switch p.Text {
	case "&&", "||":
		return logic{p.Text, a, b}
	case "==", "!=":
		return comparison{p.Text == "!=", a, b}
	}
	return binary{p.Text, a, b}
}

func (r *reader) mapMade(p *part) expr {
	var out mapMade
	for _, pair := range p.kids {
		out.parts = append(out.parts, r.exprs(pair.kids)...)
	}
	return out
}

func (r *reader) structMade(p *part) structMade {
	s := r.program.shapes[p.Text]
	out := structMade{zero: s.zero}
	for _, pair := range p.kids {
		out.fields = append(out.fields, slices.Index(s.fields, pair.Text))
		out.parts = append(out.parts, r.expr(pair.kids[0]))
	}
	return out
}

func (r *reader) literal(p *part) expr {
	within := newReader(r.program, r)
	c := &routine{name: "func", params: len(p.kids[0].kids), slots: p.slots}
	c.body = within.block(p.kids[1])
	return funcMade{c, within.takes}
}

func (r *reader) nilOf(p *part) value {
	name, star := p.wanted()
	if star {
		return pointer{typed: typed{name}}
	}
	switch kind, _ := r.program.table.Under(name); kind {
	case api.KList:
		return list{typed: typed{name}}
	case api.KMap:
		return mapping{typed: typed{name}}
	}
	return function{typed: typed{name}}
}

// selection reads e.f; at once: it is called there and then.
func (r *reader) selection(p *part, atOnce bool) expr {
	of := p.kids[0]
	switch {
	case of.isType():
		return methodExpression{question{of.Text, false, p.Text}}
	case of.isPointerType():
		return methodExpression{question{of.kids[0].Text, true, p.Text}}
	}
	return selection{r.expr(of), p.Text, atOnce}
}

func (r *reader) indexed(p *part) indexed {
	return indexed{r.expr(p.kids[0]), r.expr(p.kids[1])}
}

func (r *reader) sliced(p *part) expr {
	out := sliced{of: r.expr(p.kids[0])}
	for i, bound := range p.kids[1:] {
		if bound.Kind != api.NNone {
			out.bounds[i] = r.expr(bound)
		}
	}
	return out
}

func (r *reader) assertion(p *part) assertion {
	want, star := p.kids[1].wanted()
	return assertion{r.expr(p.kids[0]), want, star}
}

// call reads a conversion, a built-in call, or a call of a func.
func (r *reader) call(p *part) expr {
	called := p.kids[0]
	if called.isType() {
		kind, _ := r.program.table.Under(called.Text)
		return conversion{kind, called.Text, r.expr(p.kids[1])}
	}
	if isBuilt(called) {
		return r.builtCall(p)
	}
	return r.funcCall(p)
}

func isBuilt(p *part) bool { return p.Kind == api.NName && p.use.Kind == names.Builtin }

func (r *reader) builtCall(p *part) builtCall {
	return builtCall{p.kids[0].Text, r.exprs(p.kids[1:])}
}

func (r *reader) funcCall(p *part) call {
	called := p.kids[0]
	out := call{at: p.At}
	if called.Kind == api.NSelect {
		out.called = r.selection(called, true)
	} else {
		out.called = r.expr(called)
	}
	out.args = r.exprs(p.kids[1:])
	return out
}
