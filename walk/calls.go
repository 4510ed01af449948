package walk

import (
	"strconv"

	"guise/api"
)

// frame is a function that is being run; the program's beginning has one, too.
type frame struct {
	run       *run
	slots     []*variable
	taken     []*variable // of the functions around a literal
	level     int         // how many calls are being run, with this one
	hand      int         // the place of the statement that was begun last
	laid      []laid
	by        *frame // whose defer called it; nil: no defer did
	answer    value
	panicking bool
	thrown    value // with what it is panicking
}

// callee is what can be called.
type callee interface {
	title() string
	wants() int
	// call is asked with as many arguments as it wants; by is the function whose defer calls.
	call(r *run, args []value, by *frame) value
}

// routine is a function as it is written.
type routine struct {
	name   string
	params int // with the receiver
	slots  int
	body   statement
}

func (c *routine) title() string { return c.name }
func (c *routine) wants() int    { return c.params }
func (c *routine) call(r *run, args []value, by *frame) value {
	return r.play(c, nil, args, by)
}

// closure is a literal with the variables around it.
type closure struct {
	*routine
	taken []*variable
}

func (c closure) call(r *run, args []value, by *frame) value {
	return r.play(c.routine, c.taken, args, by)
}

// bound is a method with its receiver.
type bound struct {
	*routine
	receiver value
}

func (c bound) wants() int { return c.params - 1 }
func (c bound) call(r *run, args []value, by *frame) value {
	return r.play(c.routine, nil, append([]value{c.receiver}, args...), by)
}

// expression is a method of a type, or of a pointer to it, whose receiver comes first.
type expression struct {
	name    string
	pointer bool
	method  string
	found   api.Found
}

func (c expression) title() string { return c.found.Type + "." + c.method }
func (c expression) wants() int    { return c.found.Count + 1 }
func (c expression) call(r *run, args []value, by *frame) value {
	r.must(args[0], c.name, c.pointer)
	return r.bind(args[0], c.method, c.found).call(r, args[1:], by)
}

// faultError is the method Error, which is written nowhere: so it is no function that is being run, and the hand stays the caller's.
type faultError struct{ receiver pointer }

func (c faultError) title() string { return "fault.Error" }
func (c faultError) wants() int    { return 0 }
func (c faultError) call(r *run, _ []value, _ *frame) value {
	items := r.pointed(c.receiver, "field word").items
	s := r.mustPrint(items[0])
	if more := r.mustPrint(items[1]); items[1] != nil && more != "" {
		s += " " + more
	}
	if len(s) > api.MaxText {
		panic(r.fault("count", shownTooLong))
	}
	r.take(len(s))
	return textOf(s)
}

// callable is what a value that is called leads to.
func (r *run) callable(v value) callee {
	f := r.callableOrNil(v)
	if f == nil {
		panic(r.fault("nil", "call"))
	}
	return f
}

// callableOrNil: of nil, and of a nil func, there is nothing to be called.
func (r *run) callableOrNil(v value) callee {
	f, is := v.(function)
	if v != nil && !is {
		panic(r.fault("operand", "() "+nameOf(v)))
	}
	return f.callee
}

// invoke calls what is known to be a func, from a place.
func (r *run) invoke(c callee, args []value, at int, by *frame) value {
	r.step()
	if r.top.level == r.depth {
		panic(ended{api.Overflow})
	}
	r.event(toldCall, at, c.title())
	r.counted(len(args), c.wants())
	v := c.call(r, args, by)
	r.event(toldEnd, at, c.title())
	return v
}

// counted: as many arguments came as are wanted.
func (r *run) counted(came, wanted int) {
	if came != wanted {
		panic(r.fault("arguments", strconv.Itoa(came)+" for "+strconv.Itoa(wanted)))
	}
}

// play runs a function, and behind it what it laid down.
func (r *run) play(c *routine, taken []*variable, args []value, by *frame) value {
	f := &frame{run: r, slots: make([]*variable, c.slots), taken: taken, level: r.top.level + 1, by: by}
	for i, v := range args {
		f.slots[i] = &variable{v}
	}
	around := r.top
	f.guard(func() { c.body.do(f) })
	for len(f.laid) > 0 {
		last := len(f.laid) - 1
		next := f.laid[last]
		f.laid = f.laid[:last]
		f.guard(func() { next.turn(f) })
	}
	r.top = around
	if f.panicking {
		panic(thrown{f.thrown})
	}
	return f.answer
}

// guard does something in a function, which is panicking, if that ends by a panic. All is unwound up to here, ahead of going on: so many calls within one another end as fast as one by one.
func (f *frame) guard(do func()) {
	f.run.top = f
	switch c := tried(do).(type) {
	case nil:
	case thrown:
		f.panicking, f.thrown, f.answer = true, c.held, nil
	default:
		panic(c)
	}
}

// laid is a call that a defer laid down.
type laid interface{ turn(f *frame) }

type laidCall struct {
	called value
	args   []value
	at     int
}

func (l laidCall) turn(f *frame) {
	f.run.invoke(f.run.callable(l.called), l.args, l.at, f)
}

type laidBuilt struct {
	name string
	args []value
}

func (l laidBuilt) turn(f *frame) {
	f.run.built(l.name, l.args, nil)
}

// begin begins a statement.
func (f *frame) begin(at int) {
	f.run.step()
	f.hand = at
	f.run.event(toldStatement, at, "")
}
