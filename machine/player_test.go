package machine_test

import (
	"errors"
	"fmt"
	"slices"
	"strings"

	"guise/api"
	"guise/code"
	"guise/heap"
	"guise/number"
	"guise/types"
)

// A second reading of chapter 16, against which machines are held: code is played instruction by instruction. Values are plain data, what they lead to lies in a heap (chapter 10). What is on the stack and is not what an instruction takes is a panic of Go's: right code never comes there.

type player struct {
	program     code.Program
	table       *types.Table
	heap        *heap.Heap
	done        [code.OpDrop + 1]int
	pieces      []int // the fuel of this Run, and of those behind it
	spent       int   // of this one's
	runs        []api.Outcome
	depth       int
	steps, room int
	level       int // calls that are being run
	out         []string
	events      []api.Event
	globals     []int
	declared    map[int]api.Datum // funcs of declared functions, by their numbers
	callables   []callable        // by the code's numbers of the heap's functions
	objects     map[int]string    // of what type objects are
	top         *playing
	frames      []*playing  // all calls that are being run
	handed      []api.Datum // what is about to be called, with its arguments
	counts      [][3]int
	answered    int // how often behind a Run a call was panicking and had an answer that leads somewhere
}

type doing func(m *player, c *playing, in code.Inst)

// callable is what can be called, with the variables and values that it keeps.
type callable struct {
	title string
	wants int
	run   func(args []api.Datum, by *playing) api.Datum
	boxes []int
	bound []api.Datum
}

// laidDown is a call that waits for its turn, with all values in it.
type laidDown struct {
	turn func()
	held []api.Datum
}

// playing is a call that is being run.
type playing struct {
	function  code.Func
	slots     []int // variables; 0: none yet
	taken     []int
	next      int // the instruction at hand, and then the one behind it
	stack     []thing
	laid      []laidDown
	by        *playing // which one's defer called it
	hand      int
	over      bool
	answer    api.Datum
	panicking bool
	thrown    api.Datum
}

// thing is an api.Datum, a spot or a turn.
type thing any

// turn is a loop's: it tells the next key and value, and has all that was there at its beginning.
type turn struct {
	next func() (key, held api.Datum, more bool)
	held []api.Datum
}

type playThrown struct{ held api.Datum }

type playEnded struct{ end int }

// What operations and built-in calls do, made once: thousands of programs are played.
var (
	allDoings   map[code.Op]doing
	allBuiltIns map[string]builtIn
)

func init() { allDoings, allBuiltIns = doings(), builtIns() }

// story is all that is told of a program that is played: what each Run answered, the last one's error, the events, how many things there were.
type story struct {
	runs     []api.Outcome
	err      error
	events   []api.Event
	counts   [][3]int             // behind each Run: Things, what Collect forgets, Things behind it
	done     [code.OpDrop + 1]int // how often each operation was done
	answered int                  // how often behind a Run a call was panicking and had an answer that leads somewhere
}

// last is what the last Run answered.
func (s story) last() api.Outcome { return s.runs[len(s.runs)-1] }

// played plays code, in pieces of fuel.
func played(p code.Program, t *types.Table, depth int, pieces ...int) story {
	m := &player{program: p, table: t, heap: heap.New(), pieces: pieces, depth: depth, declared: map[int]api.Datum{}, objects: map[int]string{}}
	for range p.Globals {
		m.globals = append(m.globals, m.box(api.Datum{}))
	}
	for i, f := range p.Funcs {
		if i > 0 && f.Around == -1 {
			m.declared[i] = m.function(m.callable(i, nil))
		}
	}
	end, err := api.Done, error(nil)
	switch e := tried(func() { m.run(m.call(0, nil, nil)) }).(type) {
	case nil:
	case playEnded:
		end = e.end
	case playThrown:
		end, err = api.Panic, m.panicked(e.held)
	default:
		panic(e)
	}
	if end != api.Spent {
		m.frames, m.handed = nil, nil
	}
	m.ended(end)
	return story{m.runs, err, m.events, m.counts, m.done, m.answered}
}

// ended: a Run answers.
func (m *player) ended(end int) {
	m.runs = append(m.runs, api.Outcome{End: end, Out: slices.Clone(m.out), Steps: m.steps})
	for _, c := range m.frames {
		if c.panicking && c.answer.Ref.Object != 0 {
			m.answered++
		}
	}
	things := m.things()
	forgotten := m.collect()
	m.counts = append(m.counts, [3]int{things, forgotten, m.things()})
}

func tried(do func()) (caught any) {
	defer func() { caught = recover() }()
	do()
	return nil
}

func (m *player) panicked(v api.Datum) error {
	p := &api.Panicked{Shown: m.shown(v)}
	if v.Kind == api.KPointer && v.Type == "fault" && v.Ref.Object != 0 && len(v.Ref.Path) == 0 {
		s, _ := m.heap.Read(v)
		p.Cause = &api.Fault{Word: orDots(m.printed(s.Items[0])), More: orDots(m.printed(s.Items[1]))}
	}
	return p
}

func orDots(s string) string {
	if len(s) > api.MaxText {
		return ".."
	}
	return s
}

func (m *player) shown(v api.Datum) string { return orDots(m.heap.Show(m.table, v)) }

// printed is a value as print tells it; it may be longer than a text.
func (m *player) printed(v api.Datum) string {
	if v.Kind == api.KText && v.Type == "text" {
		return v.S
	}
	return m.heap.Show(m.table, v)
}

func (m *player) event(kind, at int, text string) {
	m.events = append(m.events, api.Event{Kind: kind, At: at, Text: text})
}

func (m *player) step() {
	for m.spent == m.pieces[0] {
		if len(m.pieces) == 1 {
			panic(playEnded{api.Spent})
		}
		m.ended(api.Spent)
		m.pieces, m.spent = m.pieces[1:], 0
	}
	m.spent++
	m.steps++
}

func (m *player) take(room int) {
	if m.room += room; m.room > api.MaxRoom {
		panic(playEnded{api.Full})
	}
}

// throw is a panic that begins here.
func (m *player) throw(v api.Datum) playThrown {
	m.event(5, m.top.hand, m.shown(v))
	return playThrown{v}
}

func (m *player) fault(word string, more ...any) {
	panic(m.throw(m.object(api.Datum{Kind: api.KStruct, Type: "fault", Items: []api.Datum{text(word), text(strings.TrimSuffix(fmt.Sprintln(more...), "\n"))}})))
}

// right passes a fault of a layer beneath on.
func (m *player) right(err error) {
	var f *api.Fault
	if errors.As(err, &f) {
		m.fault(f.Word, f.More)
	}
	if err != nil {
		panic("the player went wrong: " + err.Error())
	}
}

func (m *player) object(s api.Datum) api.Datum {
	m.take(sizeOf(s))
	p, err := m.heap.Object(s)
	m.right(err)
	m.objects[p.Ref.Object] = s.Type
	return p
}

func sizeOf(d api.Datum) int {
	size := 1
	if d.Kind == api.KStruct {
		for _, item := range d.Items {
			size += sizeOf(item)
		}
	}
	return size
}

func (m *player) box(v api.Datum) int {
	n, err := m.heap.Box(v)
	m.right(err)
	return n
}

func (m *player) open(box int) api.Datum {
	v, is := m.heap.Open(box)
	if !is {
		panic("the player has no such variable")
	}
	return v
}

func text(s string) api.Datum { return api.Datum{Kind: api.KText, Type: "text", S: s} }
func integer(n int) api.Datum { return api.Datum{Kind: api.KInt, Type: "int", N: n} }
func truth(b bool) api.Datum {
	d := api.Datum{Kind: api.KBool, Type: "bool"}
	if b {
		d.N = 1
	}
	return d
}

// typeOf is the type as it is told.
func typeOf(v api.Datum) string { return number.Name(v) }

func (m *player) function(c callable) api.Datum {
	m.callables = append(m.callables, c)
	f, err := m.heap.Func(len(m.callables)-1, c.boxes, c.bound)
	m.right(err)
	return f
}

// callable is a function of the code with what it takes.
func (m *player) callable(number int, taken []int) callable {
	f := m.program.Funcs[number]
	return callable{title: f.Name, wants: f.Params, boxes: taken, run: func(args []api.Datum, by *playing) api.Datum {
		c := m.call(number, taken, args)
		c.by = by
		m.level++
		defer func() { m.level-- }()
		return m.run(c)
	}}
}

func (m *player) call(number int, taken []int, args []api.Datum) *playing {
	f := m.program.Funcs[number]
	c := &playing{function: f, slots: make([]int, f.Slots), taken: taken}
	for i, v := range args {
		c.slots[i] = m.box(v)
	}
	return c
}

// run plays a call to its end, with what it laid down.
func (m *player) run(c *playing) api.Datum {
	around := m.top
	m.frames = append(m.frames, c)
	m.guarded(c, func() {
		for !c.over {
			in := c.function.Code[c.next]
			c.next++
			m.done[in.Op]++
			allDoings[in.Op](m, c, in)
		}
	})
	for len(c.laid) > 0 {
		last := c.laid[len(c.laid)-1]
		c.laid = c.laid[:len(c.laid)-1]
		m.guarded(c, last.turn)
	}
	m.top, m.frames = around, m.frames[:len(m.frames)-1]
	if c.panicking {
		panic(playThrown{c.thrown})
	}
	return c.answer
}

// guarded does something in a call, which is panicking, if that ends by a panic.
func (m *player) guarded(c *playing, do func()) {
	m.top = c
	caught := tried(do)
	m.top = c
	if t, is := caught.(playThrown); is {
		c.panicking, c.thrown, c.stack = true, t.held, nil
	} else if caught != nil {
		panic(caught)
	}
}

// invoke calls a func from a place; by is the call whose defer does.
func (m *player) invoke(f api.Datum, args []api.Datum, at int, by *playing) api.Datum {
	if !m.isFunc(f) {
		m.fault("nil", "call")
	}
	m.handed = append([]api.Datum{f}, args...)
	m.step()
	m.handed = nil
	if m.level == m.depth {
		panic(playEnded{api.Overflow})
	}
	number, _, _, _ := m.heap.Called(f)
	c := m.callables[number]
	m.event(2, at, c.title)
	if len(args) != c.wants {
		m.fault("arguments", len(args), "for", c.wants)
	}
	v := c.run(args, by)
	m.event(3, at, c.title)
	return v
}

// isFunc: it leads to a function; false of nil, and of a func that leads to none.
func (m *player) isFunc(f api.Datum) bool {
	if f.Kind != api.KNil && f.Kind != api.KFunc {
		m.fault("operand", "()", typeOf(f))
	}
	return f.Ref.Object != 0
}
