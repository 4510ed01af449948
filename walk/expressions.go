package walk

import (
	"guise/api"
	"guise/number"
)

// expr is an expression.
type expr interface{ eval(f *frame) value }

// constant is the same each time.
type constant struct{ held value }

func (e constant) eval(*frame) value { return e.held }

// local is a variable of the function itself, outer one that a literal took, global one of the program.
type local struct{ slot int }

type outer struct{ number int }

type global struct{ number int }

func (e local) eval(f *frame) value  { return f.slots[e.slot].held }
func (e outer) eval(f *frame) value  { return f.taken[e.number].held }
func (e global) eval(f *frame) value { return f.run.globals[e.number].held }

// evaluated is what some expressions are, from left to right.
func evaluated(f *frame, all []expr) []value {
	out := make([]value, len(all))
	for i, e := range all {
		out[i] = e.eval(f)
	}
	return out
}

type listMade struct{ items []expr }

func (e listMade) eval(f *frame) value {
	items := evaluated(f, e.items)
	f.run.take(len(items))
	return listOf(items)
}

// mapMade has keys and values in turns.
type mapMade struct{ parts []expr }

func (e mapMade) eval(f *frame) value {
	parts := evaluated(f, e.parts)
	s := newStore()
	for i := 0; i < len(parts); i += 2 {
		f.run.mayKey(parts[i])
		f.run.put(s, parts[i], parts[i+1])
	}
	return mapOf(s)
}

// structMade names fields by their numbers, in the order of the text.
type structMade struct {
	zero   *structure
	fields []int
	parts  []expr
}

func (e structMade) eval(f *frame) value { return e.made(f) }

func (e structMade) made(f *frame) *structure {
	items := append([]value{}, e.zero.items...)
	parts := evaluated(f, e.parts)
	for i, field := range e.fields {
		f.run.mayStand(e.zero.name, field, parts[i])
		items[field] = parts[i]
	}
	s := newStructure(e.zero.name, items)
	f.run.sized(s)
	return s
}

type objectMade struct{ of structMade }

func (e objectMade) eval(f *frame) value { return f.run.object(e.of.made(f)) }

// funcMade is a literal; takes says where the variables that it takes are: in a slot of the function around it, or among what that one took.
type funcMade struct {
	routine *routine
	takes   []taking
}

type taking struct {
	again  bool // it was taken already
	number int
}

func (e funcMade) eval(f *frame) value {
	f.run.take(1 + len(e.takes))
	taken := make([]*variable, len(e.takes))
	for i, t := range e.takes {
		if t.again {
			taken[i] = f.taken[t.number]
		} else {
			taken[i] = f.slots[t.number]
		}
	}
	return funcOf(closure{e.routine, taken})
}

type conversion struct {
	kind int
	name string
	of   expr
}

func (e conversion) eval(f *frame) value {
	v := e.of.eval(f)
	if kindOf(v) == e.kind && e.kind > api.KText {
		return renamed(v, e.name)
	}
	d, err := number.Convert(e.kind, e.name, datumOf(v))
	if err != nil {
		panic(f.run.faultOf(err))
	}
	return valueOf(d)
}

// selection is e.f; at once: what it binds is called there and then, and takes no room.
type selection struct {
	of     expr
	name   string
	atOnce bool
}

func (e selection) eval(f *frame) value {
	v, bound := f.run.selected(e.of.eval(f), e.name)
	if bound && !e.atOnce {
		f.run.take(1)
	}
	return v
}

type methodExpression struct{ of question }

func (e methodExpression) eval(f *frame) value { return f.run.express(e.of) }

type assertion struct {
	of   expr
	want string
	star bool
}

func (e assertion) eval(f *frame) value { return f.run.must(e.of.eval(f), e.want, e.star) }

func (e assertion) pair(f *frame) (value, bool) {
	if v := e.of.eval(f); f.run.holds(v, e.want, e.star) {
		return v, true
	}
	return nil, false
}

// call calls what the first expression is.
type call struct {
	called expr
	args   []expr
	at     int
}

func (e call) eval(f *frame) value {
	v := e.called.eval(f)
	args := evaluated(f, e.args)
	return f.run.invoke(f.run.callable(v), args, e.at, nil)
}

type builtCall struct {
	name string
	args []expr
}

func (e builtCall) eval(f *frame) value {
	return f.run.built(e.name, evaluated(f, e.args), f.by)
}
