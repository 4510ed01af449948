package machine

import (
	"strconv"

	"guise/api"
)

// call is a function that is being run.
type call struct {
	*routine
	from      origin
	slots     []*variable // nil, or beyond the end: it was given none
	taken     []*variable
	next      int // the instruction that comes next
	stack     []thing
	laid      []laid
	hand      int  // the place of the statement that was begun last
	ending    bool // nothing is done any more but what was laid down
	panicking bool
	answer    value
	thrown    value // with what it is panicking
}

// origin is from where a function was called, and how it is told.
type origin struct {
	at    int
	title string
}

func newCall(r *routine) *call { return &call{routine: r, answer: nothing{}, thrown: nothing{}} }

func (m *Machine) top() *call { return m.calls[len(m.calls)-1] }

func (c *call) push(x thing) { c.stack = append(c.stack, x) }

func (c *call) off() thing {
	last := len(c.stack) - 1
	x := c.stack[last]
	c.stack = c.stack[:last]
	return x
}

func (c *call) value() value { return c.off().(value) }

// two takes two values off, of which the second one lay on top.
func (c *call) two() (w, v value) {
	v = c.value()
	return c.value(), v
}

// values takes so many off; the first one lay lowest.
func (c *call) values(n int) []value {
	out := make([]value, n)
	from := len(c.stack) - n
	for i, x := range c.stack[from:] {
		out[i] = x.(value)
	}
	c.stack = c.stack[:from]
	return out
}

// give gives a slot a variable.
func (c *call) give(slot int, v *variable) {
	for len(c.slots) <= slot {
		c.slots = append(c.slots, nil)
	}
	c.slots[slot] = v
}

// given is a slot's variable; nil: it has none.
func (c *call) given(slot int) *variable {
	if slot < len(c.slots) {
		return c.slots[slot]
	}
	return nil
}

// slot is a slot's variable: it is given one, if it has none.
func (m *Machine) slot(c *call, slot int) *variable {
	if c.given(slot) == nil {
		c.give(slot, m.newVariable(nothing{}))
	}
	return c.slots[slot]
}

// fail: the call is panicking with a value. What lies on its stack is gone; an answer that it has stays its own until it ends or recovers.
func (c *call) fail(v value) {
	c.ending, c.panicking, c.thrown = true, true, v
	c.stack, c.next = nil, 0
}

// calm: the call is panicking no more, and its answer is nil, whatever it was. It tells with what it was panicking.
func (c *call) calm() value {
	v := c.thrown
	c.panicking, c.thrown, c.answer = false, nothing{}, nothing{}
	return v
}

// end goes on with a call that is ending: with what it laid down last, or, if that was all, with the one that called it.
func (m *Machine) end(c *call) {
	if len(c.laid) > 0 {
		c.laid[len(c.laid)-1].turn(m, c)
		return
	}
	first := len(m.calls) == 1
	switch {
	case c.panicking && first:
		m.panicked(c.thrown)
	case first:
		panic(stopped{api.Done})
	case c.panicking:
		m.leave()
		m.top().fail(c.thrown)
	default:
		m.leave()
		m.answered(c.from, c.answer)
	}
}

// leave forgets the innermost call.
func (m *Machine) leave() {
	last := len(m.calls) - 1
	m.calls[last] = nil
	m.calls = m.calls[:last]
}

// answered: a function that was called ended with an answer. Nobody takes that of one that was laid down.
func (m *Machine) answered(e origin, v value) {
	if c := m.top(); !c.ending {
		c.push(v)
	}
	m.event(toldEnd, e.at, e.title)
}

// invoke calls what is known to be a func. Its arguments are taken from where they lie when its step is counted: without fuel they lie there yet.
func (m *Machine) invoke(f callee, at int, take func() []value) {
	m.step()
	args := take()
	if len(m.calls)-1 == m.depth { // the first one is the program's beginning
		panic(stopped{api.Overflow})
	}
	m.event(toldCall, at, f.title())
	m.counted(len(args), f.wants())
	f.enter(m, args, origin{at, f.title()})
}

// counted: as many arguments came as are wanted.
func (m *Machine) counted(came, wanted int) {
	if came != wanted {
		panic(m.fault("arguments", strconv.Itoa(came)+" for "+strconv.Itoa(wanted)))
	}
}

// enter begins to run a function.
func (m *Machine) enter(r *routine, taken []*variable, args []value, e origin) {
	c := newCall(r)
	c.taken, c.from = taken, e
	for i, v := range args {
		c.give(i, m.newVariable(v))
	}
	m.calls = append(m.calls, c)
}

// callable is what can be called of a value; nil: of nil, and of a nil func, there is nothing.
func (m *Machine) callable(v value) callee {
	f, is := v.(function)
	if !is && !isNil(v) {
		panic(m.fault("operand", "() "+nameOf(v)))
	}
	return f.callee
}

func (m *Machine) call(c *call, in *inst) {
	f := m.callable(c.stack[len(c.stack)-1-in.A].(value))
	if f == nil {
		panic(m.fault("nil", "call"))
	}
	m.invoke(f, in.At, func() []value {
		args := c.values(in.A)
		c.off()
		return args
	})
}

// giveBack ends a call with an answer: what lies below it on the stack stays there.
func (m *Machine) giveBack(c *call, in *inst) {
	c.answer, c.ending = c.value(), true
}

// laid is a call that a defer laid down.
type laid interface {
	thing
	turn(m *Machine, c *call)
}

type laidCall struct {
	called value
	args   []value
	at     int
}

type laidBuilt struct {
	name string
	args []value
}

func (c *call) forget() { c.laid = c.laid[:len(c.laid)-1] }

func (l laidCall) turn(m *Machine, c *call) {
	f := m.callable(l.called)
	if f == nil {
		c.forget()
		panic(m.fault("nil", "call"))
	}
	m.invoke(f, l.at, func() []value {
		c.forget()
		return l.args
	})
}

// turn: recover() that was laid down is written in no function that a defer calls.
func (l laidBuilt) turn(m *Machine, c *call) {
	c.forget()
	if l.name != "recover" || len(l.args) > 0 {
		m.built(l.name, l.args)
	}
}

func (m *Machine) deferCall(c *call, in *inst) {
	args := c.values(in.A)
	called := c.value()
	m.callable(called)
	c.laid = append(c.laid, laidCall{called, args, in.At})
	m.event(toldDefer, in.At, "")
}

func (m *Machine) deferBuilt(c *call, in *inst) {
	c.laid = append(c.laid, laidBuilt{in.Text, c.values(in.A)})
	m.event(toldDefer, in.At, "")
}
