package walk

import (
	"guise/number"
)

type unary struct {
	op string
	of expr
}

func (e unary) eval(f *frame) value {
	d, err := number.Unary(e.op, datumOf(e.of.eval(f)))
	if err != nil {
		panic(f.run.faultOf(err))
	}
	return valueOf(d)
}

// followed is what a pointer leads to.
type followed struct{ of expr }

func (e followed) eval(f *frame) value { return f.run.follow(e.of.eval(f)).read() }

// follow is a pointer that leads to something.
func (r *run) follow(v value) pointer {
	p, is := v.(pointer)
	if !is {
		panic(r.fault("operand", "* "+nameOf(v)))
	}
	if p.object == nil {
		panic(r.fault("nil", "pointer"))
	}
	return p
}

type binary struct {
	op   string
	a, b expr
}

func (e binary) eval(f *frame) value {
	a := e.a.eval(f)
	return f.run.operate(e.op, a, e.b.eval(f))
}

// operate does an operation with two values; a text that comes of it takes room.
func (r *run) operate(op string, a, b value) value {
	d, err := number.Binary(op, datumOf(a), datumOf(b))
	if err != nil {
		panic(r.faultOf(err))
	}
	v := valueOf(d)
	if t, is := v.(text); is {
		r.take(len(t.s))
	}
	return v
}

type comparison struct {
	not  bool
	a, b expr
}

func (e comparison) eval(f *frame) value {
	a := e.a.eval(f)
	return boolOf(f.run.equal(a, e.b.eval(f)) != e.not)
}

func (r *run) equal(a, b value) bool {
	same, unfit := equal(a, b)
	if unfit != "" {
		panic(r.fault("compare", unfit))
	}
	return same
}

// logic is && or ||: the second part is asked only if the first one is not it yet.
type logic struct {
	op   string
	a, b expr
}

func (e logic) eval(f *frame) value {
	first := f.run.truth(e.op, e.a.eval(f))
	if first == (e.op == "||") {
		return boolOf(first)
	}
	return boolOf(f.run.truth(e.op+" bool", e.b.eval(f)))
}

// truth is what a part of && or || says, which must be of the type bool itself; more says which part it is.
func (r *run) truth(more string, v value) bool {
	b, is := v.(boolean)
	if !is || b.name != "bool" {
		panic(r.fault("operand", more+" "+nameOf(v)))
	}
	return b.yes
}

// condition is what a value of the kind bool says.
func (r *run) condition(v value) bool {
	b, is := v.(boolean)
	if !is {
		panic(r.fault("bool", nameOf(v)))
	}
	return b.yes
}
