package machine

import (
	"errors"
	"strings"

	"guise/api"
)

// What is told of a run, by an event's Kind.
const (
	toldStatement = iota + 1
	toldCall
	toldEnd
	toldDefer
	toldPanic
	toldRecover
	toldLine
)

// thrown is a panic of the language's own, on its way to the call that it ends.
type thrown struct{ held value }

// stopped: the run goes on no more, or not in this Run (api.Spent).
type stopped struct{ end int }

// run goes on until it is stopped.
func (m *Machine) run() {
	m.running = true
	defer func() { m.running = false }()
	for {
		switch c := tried(m.play).(type) {
		case thrown:
			m.top().fail(c.held)
			m.tellAll()
		case stopped:
			m.stop(c.end)
			m.tellAll()
			return
		default: // whoever watches has gone wrong
			panic(c)
		}
	}
}

// tried does something, and tells by which panic of Go's it ended.
func tried(do func()) (caught any) {
	defer func() { caught = recover() }()
	do()
	return nil
}

// play does one instruction behind another; it is left by a panic.
func (m *Machine) play() {
	for {
		if c := m.top(); c.ending {
			m.end(c)
		} else {
			in := &c.code[c.next]
			c.next++
			in.do(m, c, in)
		}
		m.tellAll()
	}
}

// stop: what there was no fuel for is still to be done. Of a run that is over nothing but the program's variables is left.
func (m *Machine) stop(end int) {
	if end != api.Spent {
		m.result.end, m.calls = end, nil
	} else if c := m.top(); !c.ending {
		c.next--
	}
}

func (m *Machine) outcome() (api.Outcome, error) {
	o := api.Outcome{End: api.Spent, Steps: m.steps}
	for _, line := range m.out {
		o.Out = append(o.Out, strings.Clone(line))
	}
	if m.Over() {
		o.End = m.result.end
	}
	if o.End != api.Panic {
		return o, nil
	}
	p := &api.Panicked{Shown: strings.Clone(m.result.shown)}
	if f := m.result.cause; f != nil {
		p.Cause = &api.Fault{Word: strings.Clone(f.Word), More: strings.Clone(f.More)}
	}
	return o, p
}

// panicked ends the run by a panic.
func (m *Machine) panicked(v value) {
	m.result.shown = orDots(m.shown(v))
	if f, is := v.(pointer); is && f.name == "fault" && f.object != nil && len(f.path) == 0 {
		items := f.read().items
		m.result.cause = &api.Fault{Word: orDots(m.printed(items[0])), More: orDots(m.printed(items[1]))}
	}
	panic(stopped{api.Panic})
}

// event keeps something that was done until the instruction is done: so whoever watches sees the machine between two of them.
func (m *Machine) event(kind, at int, text string) {
	if m.tell != nil {
		m.waiting = append(m.waiting, api.Event{Kind: kind, At: at, Text: strings.Clone(text)})
	}
}

// shownEvent tells something that was done with a value; it is shown only if somebody watches.
func (m *Machine) shownEvent(kind int, v value) {
	if m.tell != nil {
		m.event(kind, m.top().hand, orDots(m.shown(v)))
	}
}

func (m *Machine) tellAll() {
	if len(m.waiting) == 0 {
		return
	}
	told := m.waiting
	m.waiting = nil
	for _, e := range told {
		if m.tell != nil {
			m.tell(e)
		}
	}
}

func (m *Machine) step() {
	if m.fuel == 0 {
		panic(stopped{api.Spent})
	}
	m.fuel--
	m.steps++
}

func (m *Machine) take(room int) {
	if room > api.MaxRoom-m.room {
		panic(stopped{api.Full})
	}
	m.room += room
}

// throw is a panic with a value, that begins here.
func (m *Machine) throw(v value) thrown {
	m.shownEvent(toldPanic, v)
	return thrown{v}
}

// fault is one by which the language itself says what is wrong.
func (m *Machine) fault(word, more string) thrown {
	return m.throw(m.newObject(newStructure("fault", []value{textOf(word), textOf(more)})))
}

// faultOf is the fault that a layer beneath tells.
func (m *Machine) faultOf(err error) thrown {
	var f *api.Fault
	errors.As(err, &f)
	return m.fault(f.Word, f.More)
}
