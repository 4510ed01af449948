package walk

import (
	"errors"
	"strings"

	"guise/api"
)

// What is told of a run, by an event's Kind.
const (
	toldStatement = iota + 1
	toldCall
	toldEnd
	toldDefer
	toldPanic
	toldRecover
	toldLine
)

// run is a program that is being played.
type run struct {
	*program
	fuel, depth int
	tell        func(api.Event)
	steps       int
	room        int // what was taken of it
	out         []string
	objects     int // how many there were
	globals     []*variable
	top         *frame // the function that is being run
}

type variable struct{ held value }

// thrown is a panic of the language's own, on its way.
type thrown struct{ held value }

// ended is an end of the run that is no panic: nobody in the program sees it.
type ended struct{ end int }

func newRun(p *program, fuel, depth int, tell func(api.Event)) *run {
	r := &run{program: p, fuel: fuel, depth: depth, tell: tell}
	r.globals = make([]*variable, len(p.vars))
	for i := range r.globals {
		r.globals[i] = &variable{}
	}
	r.top = &frame{run: r}
	return r
}

// whole plays the program: its variables, then main.
func (r *run) whole() {
	for i, v := range r.vars {
		r.top.begin(v.at)
		r.globals[i].held = v.made.eval(r.top)
	}
	r.invoke(r.main, nil, 0, nil)
}

// tried does something, and tells by which panic of Go's it ended; nil: by none.
func tried(do func()) (caught any) {
	defer func() { caught = recover() }()
	do()
	return nil
}

// outcome is what a run came to that ended so. What is no end of this layer's is somebody else's panic.
func (r *run) outcome(caught any) (api.Outcome, error) {
	o := api.Outcome{End: api.Done, Out: r.out, Steps: r.steps}
	switch c := caught.(type) {
	case nil:
	case ended:
		o.End = c.end
	case thrown:
		o.End = api.Panic
		return o, r.panicked(c.held)
	default:
		panic(caught)
	}
	return o, nil
}

func (r *run) panicked(v value) error {
	p := &api.Panicked{Shown: orDots(r.shown(v))}
	if f, is := v.(pointer); is && f.name == "fault" && f.object != nil && len(f.path) == 0 {
		items := f.read().items
		p.Cause = &api.Fault{Word: r.told(items[0]), More: r.told(items[1])}
	}
	return p
}

// told is what print tells of a value, in memory of its own; dots, if that is too long.
func (r *run) told(v value) string { return strings.Clone(orDots(r.printed(v))) }

// event tells something that was done.
func (r *run) event(kind, at int, text string) {
	if r.tell != nil {
		r.tell(api.Event{Kind: kind, At: at, Text: strings.Clone(text)})
	}
}

// shownEvent tells something that was done with a value; it is shown only if somebody watches.
func (r *run) shownEvent(kind int, v value) {
	if r.tell != nil {
		r.event(kind, r.top.hand, orDots(r.shown(v)))
	}
}

func (r *run) step() {
	if r.steps == r.fuel {
		panic(ended{api.Spent})
	}
	r.steps++
}

func (r *run) take(room int) {
	if room > api.MaxRoom-r.room {
		panic(ended{api.Full})
	}
	r.room += room
}

// line tells one.
func (r *run) line(s string) {
	r.out = append(r.out, strings.Clone(s))
	r.event(toldLine, r.top.hand, s)
}

// throw is a panic with a value, that begins here.
func (r *run) throw(v value) thrown {
	r.shownEvent(toldPanic, v)
	return thrown{v}
}

// fault is one by which the language itself says what is wrong.
func (r *run) fault(word, more string) thrown {
	return r.throw(r.object(newStructure("fault", []value{textOf(word), textOf(more)})))
}

// faultOf is the fault that a layer beneath tells.
func (r *run) faultOf(err error) thrown {
	var f *api.Fault
	errors.As(err, &f)
	return r.fault(f.Word, f.More)
}

// object makes one that holds a struct.
func (r *run) object(s *structure) pointer {
	r.take(s.size)
	r.objects++
	return pointer{typed: typed{s.name}, object: &object{r.objects, s}}
}
