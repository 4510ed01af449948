package walk_test

import (
	"errors"
	"fmt"
	"slices"
	"strconv"
	"strings"

	"guise/api"
	"guise/assert"
	"guise/heap"
	"guise/names"
	"guise/number"
	"guise/types"
	"guise/value"
)

// A second way through chapters 00 and 12: names are looked for in scopes while the program is played, values are plain data, and what they lead to lies in a heap (chapter 10), variables too. (So it knows no type called `pointer`, and no text longer than one may be.)

type model struct {
	table       *types.Table
	heap        *heap.Heap
	fuel, depth int
	steps, room int
	calls       int
	out         []string
	events      []api.Event
	codes       []modelCode
	funcs       map[string]api.Datum
	methods     map[string]modelCode
	globals     map[string]int
	takes       map[int]int    // by a literal's place: how many variables it takes
	objects     map[int]string // the types of what objects hold
	top         *modelFrame
}

type modelCode struct {
	title    string
	wants    int
	run      func(args []api.Datum, by *modelFrame) api.Datum
	receiver bool
}

type modelFrame struct {
	scopes    []map[string]int
	hand      int
	laid      []func()
	by        *modelFrame
	panicking bool
	thrown    api.Datum
	literal   bool
}

type modelThrown struct{ held api.Datum }

type modelEnd struct{ end int }

type modelWay struct{ kind, label string }

// played is what the model says of a program that may be.
func played(n api.Node, fuel, depth int) (o api.Outcome, err error, events []api.Event) {
	table, _ := types.Make(n)
	m := &model{table: table, heap: heap.New(), fuel: fuel, depth: depth, funcs: map[string]api.Datum{}, methods: map[string]modelCode{}, globals: map[string]int{}, takes: takesOf(n), objects: map[int]string{}}
	o.End = api.Done
	switch c := modelTried(func() { m.whole(n) }).(type) {
	case nil:
	case modelEnd:
		o.End = c.end
	case modelThrown:
		o.End = api.Panic
		err = m.panicked(c.held)
	default:
		panic(c)
	}
	o.Out, o.Steps = m.out, m.steps
	return o, err, m.events
}

func modelTried(do func()) (caught any) {
	defer func() { caught = recover() }()
	do()
	return nil
}

func (m *model) panicked(v api.Datum) error {
	p := &api.Panicked{Shown: m.shown(v)}
	if v.Kind == api.KPointer && v.Type == "fault" && v.Ref.Object != 0 && len(v.Ref.Path) == 0 {
		held, _ := m.heap.Read(v)
		p.Cause = &api.Fault{Word: dots(m.printed(held.Items[0])), More: dots(m.printed(held.Items[1]))}
	}
	return p
}

func dots(s string) string {
	if len(s) > api.MaxText {
		return ".."
	}
	return s
}

func (m *model) shown(v api.Datum) string { return dots(m.heap.Show(m.table, v)) }

func (m *model) printed(v api.Datum) string {
	if v.Kind == api.KText && v.Type == "text" {
		return v.S
	}
	return m.heap.Show(m.table, v)
}

// takesOf counts, for each literal, the variables of functions around it that are used within it.
func takesOf(n api.Node) map[int]int {
	bound, _ := names.Resolve(n)
	uses := map[int]names.Use{}
	for _, u := range bound.Uses {
		uses[u.Node] = u
	}
	type outer struct{ level, slot int }
	number, out := -1, map[int]int{}
	var over func(n api.Node, level int) map[outer]int
	over = func(n api.Node, level int) map[outer]int {
		number++
		used := map[outer]int{}
		if u := uses[number]; u.Kind == names.Local {
			used[outer{level - u.Up, u.Slot}] = 1
		}
		if n.Kind == api.NLiteral {
			level++
		}
		for _, kid := range n.Kids {
			for o := range over(kid, level) {
				if n.Kind != api.NLiteral || o.level < level {
					used[o] = 1
				}
			}
		}
		if n.Kind == api.NLiteral {
			out[n.At] = len(used)
		}
		return used
	}
	over(n, 0)
	return out
}

func (m *model) event(kind, at int, text string) {
	m.events = append(m.events, api.Event{Kind: kind, At: at, Text: text})
}

func (m *model) step() {
	if m.steps == m.fuel {
		panic(modelEnd{api.Spent})
	}
	m.steps++
}

func (m *model) take(room int) {
	m.room += room
	if m.room > api.MaxRoom {
		panic(modelEnd{api.Full})
	}
}

func (m *model) fault(word, more string) any {
	m.take(3)
	p, err := m.heap.Object(api.Datum{Kind: api.KStruct, Type: "fault", Items: []api.Datum{modelText(word), modelText(more)}})
	m.right(err)
	m.objects[p.Ref.Object] = "fault"
	return m.throw(p)
}

func (m *model) throw(v api.Datum) any {
	m.event(5, m.top.hand, m.shown(v))
	return modelThrown{v}
}

// right gives up where a layer beneath tells a fault.
func (m *model) right(err error) {
	var f *api.Fault
	if errors.As(err, &f) {
		panic(m.fault(f.Word, f.More))
	}
	if err != nil {
		panic(fmt.Sprint("the model went wrong: ", err))
	}
}

func modelText(s string) api.Datum { return api.Datum{Kind: api.KText, Type: "text", S: s} }
func modelInt(n int) api.Datum     { return api.Datum{Kind: api.KInt, Type: "int", N: n} }
func modelBool(b bool) api.Datum {
	d := api.Datum{Kind: api.KBool, Type: "bool"}
	if b {
		d.N = 1
	}
	return d
}

// whole declares what is declared, makes the variables, and calls main.
func (m *model) whole(n api.Node) {
	m.top = &modelFrame{scopes: []map[string]int{{}}}
	for _, d := range n.Kids {
		switch d.Kind {
		case api.NFunc:
			m.funcs[d.Text] = m.function(m.code(d.Text, d.Kids[0], d.Kids[1], nil))
		case api.NMethodDecl:
			on := d.Kids[0].Kids[0]
			if on.Kind == api.NPointer {
				on = on.Kids[0]
			}
			params := d.Kids[1]
			params.Kids = append([]api.Node{{Text: d.Kids[0].Text}}, params.Kids...)
			m.methods[on.Text+"."+d.Text] = m.code(on.Text+"."+d.Text, params, d.Kids[2], nil)
		case api.NVar:
			m.globals[d.Text], _ = m.heap.Box(api.Datum{})
		}
	}
	for _, d := range n.Kids {
		if d.Kind == api.NVar {
			m.begin(d)
			m.heap.Set(m.globals[d.Text], m.eval(m.top, d.Kids[0]))
		}
	}
	m.call(m.funcs["main"], nil, 0, nil)
}

func (m *model) begin(n api.Node) {
	m.step()
	m.top.hand = n.At
	m.event(1, n.At, "")
}

func (m *model) function(c modelCode) api.Datum {
	m.codes = append(m.codes, c)
	f, err := m.heap.Func(len(m.codes)-1, nil, nil)
	m.right(err)
	return f
}

func (m *model) code(title string, params, body api.Node, seen map[string]int) modelCode {
	return modelCode{title: title, wants: len(params.Kids), run: func(args []api.Datum, by *modelFrame) api.Datum {
		f := &modelFrame{scopes: []map[string]int{seen, {}}, by: by}
		for i, p := range params.Kids {
			f.define(m, p.Text, args[i])
		}
		return m.body(f, body)
	}}
}

func (f *modelFrame) define(m *model, name string, v api.Datum) {
	box, err := m.heap.Box(v)
	m.right(err)
	f.scopes[len(f.scopes)-1][name] = box
}

func (m *model) body(f *modelFrame, body api.Node) api.Datum {
	around := m.top
	m.calls++
	level := m.calls
	var answer api.Datum
	guarded := func(do func()) {
		m.top = f
		caught := modelTried(do)
		m.top, m.calls = f, level
		if t, is := caught.(modelThrown); is {
			f.panicking, f.thrown, answer = true, t.held, api.Datum{}
		} else if caught != nil {
			panic(caught)
		}
	}
	guarded(func() {
		for _, s := range body.Kids {
			if w := m.do(f, s, &answer); w.kind != "" {
				return
			}
		}
	})
	for len(f.laid) > 0 {
		last := f.laid[len(f.laid)-1]
		f.laid = f.laid[:len(f.laid)-1]
		guarded(last)
	}
	m.calls--
	m.top = around
	if f.panicking {
		panic(modelThrown{f.thrown})
	}
	return answer
}

// called is whether something can be called, or is nil.
func (m *model) called(fn api.Datum) bool {
	if fn.Kind != api.KNil && fn.Kind != api.KFunc {
		panic(m.fault("operand", "() "+number.Name(fn)))
	}
	return fn.Ref.Object != 0
}

func (m *model) call(fn api.Datum, args []api.Datum, at int, by *modelFrame) api.Datum {
	if !m.called(fn) {
		panic(m.fault("nil", "call"))
	}
	m.step()
	if m.calls == m.depth {
		panic(modelEnd{api.Overflow})
	}
	number, _, _, _ := m.heap.Called(fn)
	c := m.codes[number]
	m.event(2, at, c.title)
	if len(args) != c.wants {
		panic(m.fault("arguments", fmt.Sprintf("%d for %d", len(args), c.wants)))
	}
	v := c.run(args, by)
	m.event(3, at, c.title)
	return v
}

// in does something in a scope of its own.
func (f *modelFrame) in(do func()) {
	f.scopes = append(f.scopes, map[string]int{})
	do()
	f.scopes = f.scopes[:len(f.scopes)-1]
}

func (m *model) block(f *modelFrame, n api.Node, answer *api.Datum) (w modelWay) {
	f.in(func() {
		for _, s := range n.Kids {
			if w = m.do(f, s, answer); w.kind != "" {
				return
			}
		}
	})
	return w
}

// do does a statement.
func (m *model) do(f *modelFrame, n api.Node, answer *api.Datum) (w modelWay) {
	if n.Kind == api.NBlock {
		return m.block(f, n, answer)
	}
	m.begin(n)
	switch n.Kind {
	case api.NDefine:
		f.define(m, n.Text, m.eval(f, n.Kids[0]))
	case api.NDefineTwo:
		v, ok := m.two(f, n.Kids[2])
		f.define(m, n.Kids[0].Text, v)
		f.define(m, n.Kids[1].Text, modelBool(ok))
	case api.NAssignTwo:
		v, ok := m.two(f, n.Kids[2])
		m.lay(m.place(f, n.Kids[0]), v)
		m.lay(m.place(f, n.Kids[1]), modelBool(ok))
	case api.NAssign:
		p := m.place(f, n.Kids[0])
		if n.Text == "=" {
			m.lay(p, m.eval(f, n.Kids[1]))
			break
		}
		was := m.read(p)
		m.lay(p, m.binary(strings.TrimSuffix(n.Text, "="), was, m.eval(f, n.Kids[1])))
	case api.NStep:
		p := m.place(f, n.Kids[0])
		v := m.read(p)
		if v.Kind != api.KInt {
			panic(m.fault("operand", n.Text+" "+number.Name(v)))
		}
		v.N += map[string]int{"++": 1, "--": -1}[n.Text]
		m.lay(p, v)
	case api.NIf:
		if m.condition(m.eval(f, n.Kids[0])) {
			return m.block(f, n.Kids[1], answer)
		}
		if n.Kids[2].Kind != api.NNone {
			return m.do(f, n.Kids[2], answer)
		}
	case api.NReturn:
		if n.Kids[0].Kind != api.NNone {
			*answer = m.eval(f, n.Kids[0])
		}
		return modelWay{kind: "return"}
	case api.NDo:
		m.eval(f, n.Kids[0])
	case api.NDefer:
		m.putOff(f, n)
	case api.NBreak:
		return modelWay{"break", n.Text}
	case api.NContinue:
		return modelWay{"continue", n.Text}
	case api.NFall:
		return modelWay{kind: "fall"}
	case api.NFor, api.NRange:
		return m.loop(f, n, answer)
	case api.NSwitch, api.NTypeSwitch:
		w = m.choose(f, n, answer)
		if w.kind == "break" && (w.label == "" || w.label == n.Text) {
			return modelWay{}
		}
		return w
	}
	return modelWay{}
}

func (m *model) putOff(f *modelFrame, n api.Node) {
	called, args := n.Kids[0].Kids[0], n.Kids[0].Kids[1:]
	if m.isBuilt(f, called) {
		data := m.evals(f, args)
		f.laid = append(f.laid, func() { m.built(called.Text, data, nil) })
	} else {
		fn := m.callee(f, called)
		data := m.evals(f, args)
		m.called(fn)
		f.laid = append(f.laid, func() { m.call(fn, data, n.At, f) })
	}
	m.event(4, n.At, "")
}

func (m *model) condition(v api.Datum) bool {
	if v.Kind != api.KBool {
		panic(m.fault("bool", number.Name(v)))
	}
	return v.N == 1
}

// turn does a turn of a loop: whether it goes on, and what is told outward, if not.
func (m *model) turn(f *modelFrame, n, body api.Node, answer *api.Datum, key, held api.Datum) (bool, modelWay) {
	m.step()
	var w modelWay
	f.in(func() {
		if n.Kind == api.NRange {
			for i, v := range []api.Datum{key, held} {
				if n.Kids[i].Kind != api.NNone {
					f.define(m, n.Kids[i].Text, v)
				}
			}
		}
		w = m.block(f, body, answer)
	})
	mine := w.label == "" || w.label == n.Text
	switch {
	case w.kind == "", w.kind == "continue" && mine:
		return true, modelWay{}
	case w.kind == "break" && mine:
		return false, modelWay{}
	}
	return false, w
}

func (m *model) loop(f *modelFrame, n api.Node, answer *api.Datum) modelWay {
	body := n.Kids[len(n.Kids)-1]
	if n.Kind == api.NFor {
		for n.Kids[0].Kind == api.NNone || m.condition(m.eval(f, n.Kids[0])) {
			if on, w := m.turn(f, n, body, answer, api.Datum{}, api.Datum{}); !on {
				return w
			}
		}
		return modelWay{}
	}
	next := m.turns(m.eval(f, n.Kids[2]))
	for {
		k, v, more := next()
		if !more {
			return modelWay{}
		}
		if on, w := m.turn(f, n, body, answer, k, v); !on {
			return w
		}
	}
}

// turns is what a loop over a value comes to, one by one.
func (m *model) turns(e api.Datum) func() (k, v api.Datum, more bool) {
	i := -1
	switch e.Kind {
	case api.KInt:
		return func() (api.Datum, api.Datum, bool) { i++; return modelInt(i), api.Datum{}, i < e.N }
	case api.KText:
		return func() (api.Datum, api.Datum, bool) {
			if i++; i < len(e.S) {
				return modelInt(i), modelInt(int(e.S[i])), true
			}
			return api.Datum{}, api.Datum{}, false
		}
	case api.KList:
		return func() (api.Datum, api.Datum, bool) {
			if i++; i < e.Ref.Len {
				v, _ := m.heap.At(e, i)
				return modelInt(i), v, true
			}
			return api.Datum{}, api.Datum{}, false
		}
	case api.KMap:
		keys, held := m.heap.Keys(e)
		m.take(len(keys))
		return func() (api.Datum, api.Datum, bool) {
			for i++; i < len(keys); i++ {
				if same, _ := value.Equal(keys[i], keys[i]); !same {
					return keys[i], held[i], true
				}
				now, values := m.heap.Keys(e)
				for j, k := range now {
					if same, _ := value.Equal(k, keys[i]); same {
						return k, values[j], true
					}
				}
			}
			return api.Datum{}, api.Datum{}, false
		}
	}
	panic(m.fault("operand", "in "+number.Name(e)))
}

func (m *model) choose(f *modelFrame, n api.Node, answer *api.Datum) modelWay {
	ofTypes := n.Kind == api.NTypeSwitch
	cases := n.Kids[1:]
	of := n.Kids[0]
	if ofTypes {
		of, cases = n.Kids[1], n.Kids[2:]
	}
	var e api.Datum
	if of.Kind != api.NNone {
		e = m.eval(f, of)
	}
	chosen := -1
	for i, c := range cases {
		for _, k := range c.Kids[0].Kids {
			var is bool
			switch {
			case ofTypes && k.Text == "nil":
				is = e.Kind == api.KNil
			case ofTypes:
				want, star := modelType(k)
				is = assert.Holds(m.table, e, want, star)
			case of.Kind == api.NNone:
				is = m.condition(m.eval(f, k))
			default:
				is = m.equal(e, m.eval(f, k))
			}
			if is {
				chosen = i
				break
			}
		}
		if chosen >= 0 {
			break
		}
	}
	if chosen < 0 {
		chosen = slices.IndexFunc(cases, func(c api.Node) bool { return c.Kids[0].Kind == api.NNone })
	}
	w := modelWay{}
	for chosen >= 0 {
		f.in(func() {
			if ofTypes && n.Kids[0].Kind != api.NNone {
				f.define(m, n.Kids[0].Text, e)
			}
			w = m.block(f, cases[chosen].Kids[1], answer)
		})
		if w.kind != "fall" {
			break
		}
		chosen++
	}
	return w
}

func modelType(n api.Node) (string, bool) {
	if n.Kind == api.NPointer {
		return n.Kids[0].Text, true
	}
	return n.Text, false
}

func (m *model) equal(a, b api.Datum) bool {
	same, err := value.Equal(a, b)
	m.right(err)
	return same
}

func (m *model) binary(op string, a, b api.Datum) api.Datum {
	v, err := number.Binary(op, a, b)
	m.right(err)
	if v.Kind == api.KText {
		m.take(len(v.S))
	}
	return v
}

func (m *model) two(f *modelFrame, n api.Node) (api.Datum, bool) {
	e := m.eval(f, n.Kids[0])
	if n.Kind == api.NAssert {
		want, star := modelType(n.Kids[1])
		if assert.Holds(m.table, e, want, star) {
			return e, true
		}
		return api.Datum{}, false
	}
	k := m.eval(f, n.Kids[1])
	if e.Kind != api.KMap {
		panic(m.fault("operand", "[] "+number.Name(e)+" "+number.Name(k)))
	}
	v, ok, err := m.heap.Get(e, k)
	m.right(err)
	return v, ok
}

func (m *model) evals(f *modelFrame, all []api.Node) []api.Datum {
	var out []api.Datum
	for _, n := range all {
		out = append(out, m.eval(f, n))
	}
	return out
}

// find is a variable's box; false: no variable has that name there.
func (m *model) find(f *modelFrame, name string) (int, bool) {
	for i := len(f.scopes) - 1; i >= 0; i-- {
		if box, has := f.scopes[i][name]; has {
			return box, true
		}
	}
	box, has := m.globals[name]
	return box, has
}

func (m *model) isBuilt(f *modelFrame, n api.Node) bool {
	if n.Kind != api.NName || !slices.Contains(builtNames, n.Text) {
		return false
	}
	_, variable := m.find(f, n.Text)
	_, function := m.funcs[n.Text]
	return !variable && !function
}

var builtNames = []string{"append", "cap", "copy", "delete", "len", "make", "panic", "print", "recover", "show", "typeof"}

// isType: the node names a type where an expression may stand, or a pointer to one.
func (m *model) isType(f *modelFrame, n api.Node) (name string, star, is bool) {
	if n.Kind == api.NUnary && n.Text == "*" {
		name, _, is = m.isType(f, n.Kids[0])
		return name, true, is && n.Kids[0].Kind == api.NName
	}
	_, variable := m.find(f, n.Text)
	_, known := m.table.Under(n.Text)
	return n.Text, false, n.Kind == api.NName && known && !variable
}

// callee is what is called: a method is bound without room.
func (m *model) callee(f *modelFrame, n api.Node) api.Datum {
	if n.Kind == api.NSelect {
		return m.selected(f, n, true)
	}
	return m.eval(f, n)
}

func (m *model) eval(f *modelFrame, n api.Node) api.Datum {
	switch n.Kind {
	case api.NName:
		if n.Text == "nil" {
			return api.Datum{}
		}
		if n.Text == "true" || n.Text == "false" {
			return modelBool(n.Text == "true")
		}
		if box, is := m.find(f, n.Text); is {
			v, _ := m.heap.Open(box)
			return v
		}
		return m.funcs[n.Text]
	case api.NInt:
		v, _ := number.Int(n.Text)
		return v
	case api.NFloat:
		v, _ := number.Float(n.Text)
		return v
	case api.NText:
		return modelText(n.Text)
	case api.NList:
		items := m.evals(f, n.Kids)
		m.take(len(items))
		l, err := m.heap.List(items)
		m.right(err)
		return l
	case api.NMap:
		return m.mapOf(f, n)
	case api.NMake:
		return m.structOf(f, n)
	case api.NNew:
		s := m.structOf(f, n.Kids[0])
		m.take(modelSize(s))
		p, err := m.heap.Object(s)
		m.right(err)
		m.objects[p.Ref.Object] = s.Type
		return p
	case api.NLiteral:
		m.take(1 + m.takes[n.At])
		seen := map[string]int{}
		for _, s := range f.scopes {
			for name, box := range s {
				seen[name] = box
			}
		}
		return m.function(m.code("func", n.Kids[0], n.Kids[1], seen))
	case api.NNilOf:
		name, star := modelType(n.Kids[0])
		kind, _ := m.table.Under(name)
		if star {
			kind = api.KPointer
		}
		return api.Datum{Kind: kind, Type: name}
	case api.NSelect:
		return m.selected(f, n, false)
	case api.NIndex:
		e := m.eval(f, n.Kids[0])
		return m.index(e, m.eval(f, n.Kids[1]))
	case api.NSlice:
		return m.slice(f, n)
	case api.NCall:
		return m.calling(f, n)
	case api.NAssert:
		want, star := modelType(n.Kids[1])
		v, err := assert.Must(m.table, m.eval(f, n.Kids[0]), want, star)
		m.right(err)
		return v
	case api.NUnary:
		return m.unary(n.Text, m.eval(f, n.Kids[0]))
	}
	return m.operation(f, n)
}

func (m *model) calling(f *modelFrame, n api.Node) api.Datum {
	called := n.Kids[0]
	if m.isBuilt(f, called) {
		return m.built(called.Text, m.evals(f, n.Kids[1:]), f.by)
	}
	if name, _, is := m.isType(f, called); is && called.Kind == api.NName {
		kind, _ := m.table.Under(name)
		v, err := number.Convert(kind, name, m.eval(f, n.Kids[1]))
		m.right(err)
		return v
	}
	fn := m.callee(f, called)
	return m.call(fn, m.evals(f, n.Kids[1:]), n.At, nil)
}

func (m *model) unary(op string, v api.Datum) api.Datum {
	if op != "*" {
		v, err := number.Unary(op, v)
		m.right(err)
		return v
	}
	if v.Kind != api.KPointer {
		panic(m.fault("operand", "* "+number.Name(v)))
	}
	s, err := m.heap.Read(v)
	m.right(err)
	return s
}

func (m *model) operation(f *modelFrame, n api.Node) api.Datum {
	a := m.eval(f, n.Kids[0])
	switch n.Text {
	case "&&", "||":
		if a.Kind != api.KBool || a.Type != "bool" {
			panic(m.fault("operand", n.Text+" "+number.Name(a)))
		}
		if (a.N == 1) == (n.Text == "||") {
			return a
		}
		b := m.eval(f, n.Kids[1])
		if b.Kind != api.KBool || b.Type != "bool" {
			panic(m.fault("operand", n.Text+" bool "+number.Name(b)))
		}
		return b
	case "==":
		return modelBool(m.equal(a, m.eval(f, n.Kids[1])))
	case "!=":
		return modelBool(!m.equal(a, m.eval(f, n.Kids[1])))
	}
	return m.binary(n.Text, a, m.eval(f, n.Kids[1]))
}

func (m *model) mapOf(f *modelFrame, n api.Node) api.Datum {
	var parts []api.Datum
	for _, pair := range n.Kids {
		parts = append(parts, m.evals(f, pair.Kids)...)
	}
	out := m.heap.Map()
	for i := 0; i < len(parts); i += 2 {
		m.layKey(out, parts[i], parts[i+1])
	}
	return out
}

func (m *model) layKey(at, k, v api.Datum) {
	_, has, err := m.heap.Get(at, k)
	m.right(err)
	if !has {
		m.take(2)
	}
	m.right(m.heap.Lay(at, k, v))
}

func modelSize(d api.Datum) int {
	size := 1
	if d.Kind == api.KStruct {
		for _, item := range d.Items {
			size += modelSize(item)
		}
	}
	return size
}

func (m *model) structOf(f *modelFrame, n api.Node) api.Datum {
	out, _ := m.table.Zero(n.Text)
	fields, _ := m.table.Fields(n.Text)
	var parts []api.Datum
	for _, pair := range n.Kids {
		parts = append(parts, m.eval(f, pair.Kids[0]))
	}
	for i, pair := range n.Kids {
		at := slices.Index(fields, pair.Text)
		m.mayStand(n.Text, at, parts[i])
		out.Items[at] = parts[i]
	}
	if size := modelSize(out); size > api.MaxSize {
		panic(m.fault("count", strconv.Itoa(size)))
	}
	return out
}

func (m *model) mayStand(name string, field int, v api.Datum) {
	fields, _ := m.table.Fields(name)
	embeds, _ := m.table.Embeds(name)
	how := embeds[field]
	if how == types.Plain || how == types.EmbedProtocol && v.Kind == api.KNil {
		return
	}
	_, err := assert.Must(m.table, v, fields[field], how == types.EmbedPointer)
	m.right(err)
}

func (m *model) index(e, k api.Datum) api.Datum {
	switch {
	case e.Kind == api.KList && k.Kind == api.KInt:
		v, err := m.heap.At(e, k.N)
		m.right(err)
		return v
	case e.Kind == api.KText && k.Kind == api.KInt:
		if k.N < 0 || k.N >= len(e.S) {
			panic(m.fault("range", fmt.Sprintf("index %d of %d", k.N, len(e.S))))
		}
		return modelInt(int(e.S[k.N]))
	case e.Kind == api.KMap:
		v, _, err := m.heap.Get(e, k)
		m.right(err)
		return v
	}
	panic(m.fault("operand", "[] "+number.Name(e)+" "+number.Name(k)))
}

func (m *model) slice(f *modelFrame, n api.Node) api.Datum {
	e := m.eval(f, n.Kids[0])
	bounds := [3]api.Datum{modelInt(0), modelInt(e.Ref.Len), modelInt(-1)}
	if e.Kind == api.KText {
		bounds[1] = modelInt(len(e.S))
	}
	for i, k := range n.Kids[1:] {
		if k.Kind != api.NNone {
			bounds[i] = m.eval(f, k)
		}
	}
	third := n.Kids[3].Kind != api.NNone
	if e.Kind != api.KList && (e.Kind != api.KText || third) {
		panic(m.fault("operand", "[:] "+number.Name(e)))
	}
	for _, b := range bounds {
		if b.Kind != api.KInt {
			panic(m.fault("operand", "[:] "+number.Name(e)+" "+number.Name(b)))
		}
	}
	from, to, most := bounds[0].N, bounds[1].N, bounds[2].N
	if e.Kind == api.KText {
		if from < 0 || from > to || to > len(e.S) {
			panic(m.fault("range", fmt.Sprintf("slice %d %d of %d", from, to, len(e.S))))
		}
		e.S = e.S[from:to]
		return e
	}
	if third && most < 0 {
		panic(m.fault("range", fmt.Sprintf("slice %d %d %d of %d", from, to, most, e.Ref.Cap)))
	}
	out, err := m.heap.Slice(e, from, to, most)
	m.right(err)
	return out
}

// selected is e.f, or a method expression.
func (m *model) selected(f *modelFrame, n api.Node, atOnce bool) api.Datum {
	if name, star, is := m.isType(f, n.Kids[0]); is {
		return m.expression(name, star, n.Text)
	}
	e := m.eval(f, n.Kids[0])
	found := m.table.Find(e.Type, e.Kind == api.KPointer, n.Text)
	if found.Kind == api.FoundField || e.Kind == api.KNil {
		found, err := assert.Select(m.table, e, n.Text)
		m.right(err)
		for _, field := range found.Path {
			e = m.item(e, field, "field "+n.Text)
		}
		return e
	}
	c := m.bind(e, n.Text)
	if !atOnce {
		m.take(1)
	}
	return m.function(c)
}

func (m *model) open(e api.Datum, more string) api.Datum {
	if e.Kind != api.KPointer {
		return e
	}
	if e.Ref.Object == 0 {
		panic(m.fault("nil", more))
	}
	s, err := m.heap.Read(e)
	m.right(err)
	return s
}

func (m *model) item(e api.Datum, field int, more string) api.Datum {
	return m.open(e, more).Items[field]
}

func (m *model) bind(e api.Datum, name string) modelCode {
	first := number.Name(e)
	for gone := 0; ; gone++ {
		found := m.table.Find(e.Type, e.Kind == api.KPointer, name)
		if found.Kind == api.FoundProtocol && gone == 60 {
			panic(m.fault("missing", name+" of "+first))
		}
		_, err := assert.Select(m.table, e, name)
		m.right(err)
		if found.Kind == api.FoundMethod {
			return m.method(e, name, found)
		}
		for _, field := range found.Path {
			e = m.item(e, field, "method "+name)
		}
		if e.Kind == api.KNil {
			panic(m.fault("nil", "method "+name))
		}
	}
}

// method goes along the path by chapter 10's parts.
func (m *model) method(e api.Datum, name string, found api.Found) modelCode {
	more := "method " + name
	for _, field := range found.Path {
		next := m.item(e, field, more)
		if e.Kind == api.KPointer && next.Kind == api.KStruct {
			p, err := m.heap.Part(e, field, next.Type)
			m.right(err)
			next = p
		}
		e = next
	}
	if !found.Pointer {
		e = m.open(e, more)
	}
	title := found.Type + "." + name
	if title == "fault.Error" {
		return modelCode{title: title, run: func([]api.Datum, *modelFrame) api.Datum { return m.faultText(e) }}
	}
	c := m.methods[title]
	return modelCode{title: title, wants: c.wants - 1, run: func(args []api.Datum, by *modelFrame) api.Datum {
		return c.run(append([]api.Datum{e}, args...), by)
	}}
}

func (m *model) faultText(e api.Datum) api.Datum {
	s := m.open(e, "field word")
	out := m.mustPrint(s.Items[0])
	if more := m.mustPrint(s.Items[1]); s.Items[1].Kind != api.KNil && more != "" {
		out += " " + more
	}
	if len(out) > api.MaxText {
		panic(m.fault("count", "65537"))
	}
	m.take(len(out))
	return modelText(out)
}

func (m *model) expression(name string, star bool, method string) api.Datum {
	found := m.table.Find(name, star, method)
	whole := name
	if star {
		whole = "*" + name
	}
	switch found.Kind {
	case api.FoundTwice:
		panic(m.fault("missing", method+" of "+whole+" twice"))
	case api.FoundMethod, api.FoundProtocol:
	default:
		panic(m.fault("missing", method+" of "+whole))
	}
	m.take(1)
	return m.function(modelCode{title: found.Type + "." + method, wants: found.Count + 1, run: func(args []api.Datum, by *modelFrame) api.Datum {
		e, err := assert.Must(m.table, args[0], name, star)
		m.right(err)
		return m.bind(e, method).run(args[1:], by)
	}})
}
