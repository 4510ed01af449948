package machine

import "guise/api"

// callee is what can be called.
type callee interface {
	title() string
	wants() int
	// enter is asked with as many arguments as it wants.
	enter(m *Machine, args []value, e origin)
}

func (r *routine) title() string                            { return r.name }
func (r *routine) wants() int                               { return r.params }
func (r *routine) enter(m *Machine, args []value, e origin) { m.enter(r, nil, args, e) }

// closure is a literal with the variables around it.
type closure struct {
	note
	*routine
	taken []*variable
}

func (f *closure) enter(m *Machine, args []value, e origin) { m.enter(f.routine, f.taken, args, e) }

// bound is a method with its receiver.
type bound struct {
	note
	*routine
	receiver value
}

func (f *bound) wants() int { return f.params - 1 }

func (f *bound) enter(m *Machine, args []value, e origin) {
	m.enter(f.routine, nil, append([]value{f.receiver}, args...), e)
}

// expression is a method of a type, or of a pointer to it, whose receiver comes first.
type expression struct {
	note
	question
	found api.Found
}

func (f *expression) title() string { return f.found.Type + "." + f.what }
func (f *expression) wants() int    { return f.found.Count + 1 }

func (f *expression) enter(m *Machine, args []value, e origin) {
	m.must(args[0], f.name, f.pointer)
	m.bind(args[0], f.what, f.found).enter(m, args[1:], e)
}

// faultError is the method Error with its receiver, which has no code: so it is no function that is being run, and the hand stays the caller's.
type faultError struct {
	note
	receiver pointer
}

func (f *faultError) title() string { return "fault.Error" }
func (f *faultError) wants() int    { return 0 }

func (f *faultError) enter(m *Machine, _ []value, e origin) {
	items := m.pointed(f.receiver, "field word").items
	s := m.mustPrint(items[0])
	if more := m.mustPrint(items[1]); !isNil(items[1]) && more != "" {
		s += " " + more
	}
	if len(s) > api.MaxText {
		panic(m.fault("count", shownTooLong))
	}
	m.take(len(s))
	m.answered(e, textOf(s))
}
