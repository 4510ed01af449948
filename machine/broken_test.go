package machine

import (
	"errors"
	"slices"
	"testing"

	"guise/api"
	"guise/code"
	"guise/compile"
	"guise/parse"
	"guise/types"
)

// broken plays a program that stands in the midst of much: a loop over a map within one over a list, a literal, a bound method, an expression, laid down calls, a panic on its way.
const broken = `
type T struct { x; y }
type E struct { .T; .*Q; z }
type R struct { .S }
type Q struct { q }
type K = int
protocol S { sum(1) }
func (t T) sum(a) { return f(a) }
func (t *T) add(n) { t.x = n; return t }
func (k K) sum(a) { return a }
var g = [1, 2.5, "text", true, nil, T{x: K(1)}, &T{}, nil(*T)]
var h = map{1: 2, "k": g, nil: nil}
var e = &E{z: 5}
var b = e.add
var x = (*E).add
var y = R.sum
var w = &fault{}
var u = w.Error
var v = func() { g[0] = h }
func f(n) {
	defer print(n)
	defer b(n)
	p := func() { return n }
	for i, v in g { for k, l in h { for c in "abc" { for j in 5 { e.z = rest(n) } } } }
}
func rest(n) { for { n++ } }
func caught() { for { } }
func main() { defer caught(); y(R{S: T{x: 4}}, 7) }
`

// midst is a machine of it in the midst of rest.
func midst(t *testing.T) (*Machine, code.Program, *types.Table) {
	t.Helper()
	p, err := compile.Text(broken)
	if err != nil {
		t.Fatal(err)
	}
	n, err := parse.Program(broken)
	if err != nil {
		t.Fatal(err)
	}
	table, err := types.Make(n)
	if err != nil {
		t.Fatal(err)
	}
	m, err := New(p, table, 50)
	if err != nil {
		t.Fatal(err)
	}
	if o, err := m.Run(60); o.End != api.Spent || err != nil || len(m.calls) != 5 {
		t.Fatal("the machine stands elsewhere:", o, err, len(m.calls))
	}
	return m, p, table
}

// ending is one in the midst of what main laid down, behind a panic.
func ending(t *testing.T) (*Machine, code.Program, *types.Table) {
	m, p, table := midst(t)
	m.calls = m.calls[:2]
	m.top().fail(textOf("x"))
	m.Run(9)
	if len(m.calls) != 3 || m.calls[1].next != 0 || !m.calls[1].panicking {
		t.Fatal("the machine stands elsewhere")
	}
	return m, p, table
}

// stacked is the first thing of a kind on a machine's stacks.
func stacked[X thing](m *Machine, set func(x X) thing) {
	for _, c := range m.calls {
		for i, one := range c.stack {
			if x, is := one.(X); is {
				c.stack[i] = set(x)
				return
			}
		}
	}
	panic("nothing of that kind lies on a stack")
}

// global is what one of the program's variables has, by its number.
func global[V value](m *Machine, i int) V { return m.globals[i].held.(V) }

// same changes nothing.
func same(*Machine) {}

// What one thing of a machine is that can't be: its bytes are refused.
func TestBrokenMachines(t *testing.T) {
	for what, breaks := range breakages() {
		for i, of := range []func(*testing.T) (*Machine, code.Program, *types.Table){midst, ending} {
			m, p, table := of(t)
			if tried(func() { breaks(m) }) != nil {
				continue // there is nothing of that kind in this one
			}
			b, err := m.Save()
			if err != nil {
				t.Fatal(what, err)
			}
			got, err := Load(b, p, table)
			if what == "nothing" {
				if err != nil || got == nil {
					t.Errorf("P16.4: machine %d is refused as it was", i)
				}
				continue
			}
			if !errors.Is(err, api.ErrImage) || got != nil {
				t.Errorf("P16.4: machine %d: %s: %v", i, what, err)
			}
		}
	}
}

func breakages() map[string]func(*Machine) {
	out := map[string]func(*Machine){"nothing": same}
	for _, l := range []map[string]func(*Machine){brokenHeads(), brokenCalls(), brokenValues(), brokenNodes(), brokenThings()} {
		for what, breaks := range l {
			out[what] = breaks
		}
	}
	return out
}

func brokenHeads() map[string]func(*Machine) {
	return map[string]func(*Machine){
		"no depth":                 func(m *Machine) { m.depth = 0 },
		"no depth of what is over": func(m *Machine) { m.depth, m.result.end, m.calls = 0, api.Done, nil },
		"too great a depth":        func(m *Machine) { m.depth = api.MaxDepth + 1 },
		"more calls than may be":   func(m *Machine) { m.depth = len(m.calls) - 2 },
		"fewer things":             func(m *Machine) { m.Collect(); m.things-- },
		"things below 0":           func(m *Machine) { m.things = -1 },
		"steps below 0":            func(m *Machine) { m.steps = -1 },
		"room below 0":             func(m *Machine) { m.room = -1 },
		"more room than there is":  func(m *Machine) { m.room = api.MaxRoom + 1 },
		"a line without room":      func(m *Machine) { m.out, m.room = []string{"abc"}, 2 },
		"lines without room":       func(m *Machine) { m.out, m.room = []string{"abc", "", "abc"}, 5 },
		"lines beyond all room":    func(m *Machine) { m.out, m.room = slices.Repeat([]string{"a line"}, 200000), api.MaxRoom },
		"an end that is none":      func(m *Machine) { m.result.end, m.calls = api.Full+1, nil },
		"an end that is spent":     func(m *Machine) { m.result.end, m.calls = api.Spent, nil },
		"over, and calls":          func(m *Machine) { m.result.end = api.Done },
		"not over, and no calls":   func(m *Machine) { m.calls = nil },
		"a panic of none":          func(m *Machine) { m.result.end, m.result.shown, m.calls = api.Done, "x", nil },
		"a cause of none":          func(m *Machine) { m.result.end, m.result.cause, m.calls = api.Done, &api.Fault{}, nil },
		"another beginning":        func(m *Machine) { m.calls = m.calls[1:] },
		"a beginning twice":        func(m *Machine) { m.calls = append(m.calls[:1:1], m.calls[0], m.calls[1]) },
		"a variable fewer":         func(m *Machine) { m.globals = m.globals[1:] },
		"another print":            func(m *Machine) { m.print++ },
		"a slot that is below 0":   func(m *Machine) { m.top().hand = -1 },
		"a hand that is too far":   func(m *Machine) { m.top().hand = api.MaxSource + 1 },
		"called from too far":      func(m *Machine) { m.top().from.at = api.MaxSource + 1 },
		"another title":            func(m *Machine) { m.top().from.title = "other" },
		"a protocol's title":       func(m *Machine) { m.top().from.title = "S.sum" },
		"another method's title":   func(m *Machine) { m.calls[2].from.title = "S.add" },
		"another protocol's title": func(m *Machine) { m.calls[2].from.title = "error.sum" },
		"a type's title":           func(m *Machine) { m.calls[2].from.title = "K.sum" },
		"no function":              func(m *Machine) { r := *m.top().routine; r.number = len(m.routines); m.top().routine = &r },
		"a parameter without one":  func(m *Machine) { m.calls[2].slots[0] = nil },
		"a parameter without room": func(m *Machine) { must(m.calls[2].params > 0); m.calls[2].slots = nil },
		"more slots than there are": func(m *Machine) {
			m.top().give(m.top().routine.slots, &variable{held: nothing{}})
		},
	}
}

func brokenCalls() map[string]func(*Machine) {
	return map[string]func(*Machine){
		"an answer of what goes on":       func(m *Machine) { m.top().answer = intOf(1) },
		"a panic of what goes on":         func(m *Machine) { m.top().thrown = intOf(1) },
		"panicking, and it goes on":       func(m *Machine) { m.top().panicking = true },
		"ending where nothing returned":   func(m *Machine) { m.top().ending = true },
		"ending at no return":             func(m *Machine) { m.top().ending, m.top().next = true, 1 },
		"behind the last instruction":     func(m *Machine) { m.top().next = len(m.top().code) },
		"further than that":               func(m *Machine) { m.top().next = len(m.top().code) + 1 },
		"at another instruction":          func(m *Machine) { m.calls[1].next++ },
		"at another instruction ahead":    func(m *Machine) { m.calls[0].next-- },
		"at the first one, within a call": func(m *Machine) { m.calls[0].next = 0 },
		"something more on a stack":       func(m *Machine) { m.top().push(nothing{}) },
		"something less on a stack":       func(m *Machine) { c := m.calls[3]; c.stack = c.stack[1:] },
		"a value for a turn": func(m *Machine) {
			stacked(m, func(x *keys) thing { return nothing{} })
		},
		"a place for a turn": func(m *Machine) {
			stacked(m, func(x *keys) thing { return cell{m.globals[0]} })
		},
		"a turn for a place": func(m *Machine) {
			stacked(m, func(x member) thing { return &count{} })
		},
		"a stack behind a panic": func(m *Machine) {
			must(m.calls[1].ending)
			m.calls[1].push(nothing{})
		},
		"an answer of what recovered": func(m *Machine) {
			must(m.calls[1].ending)
			m.calls[1].panicking, m.calls[1].thrown, m.calls[1].answer = false, nothing{}, intOf(1)
		},
		"a panic behind a return": func(m *Machine) {
			must(m.calls[1].ending)
			m.calls[1].next = len(m.calls[1].code)
		},
		"laid down, and no func": func(m *Machine) {
			m.top().laid = append(m.top().laid, laidCall{called: intOf(1)})
		},
		"laid down from too far": func(m *Machine) {
			m.top().laid = append(m.top().laid, laidCall{called: nothing{}, at: api.MaxSource + 1})
		},
		"laid down, and no built-in call": func(m *Machine) {
			m.top().laid = append(m.top().laid, laidBuilt{name: "other"})
		},
	}
}

func brokenValues() map[string]func(*Machine) {
	put := func(v value) func(*Machine) { return func(m *Machine) { m.globals[4].held = v } }
	return map[string]func(*Machine){
		"a type that is not there":      put(integer{typed{"other"}, 1}),
		"a type of another kind":        put(integer{typed{"text"}, 1}),
		"a struct's name for an int":    put(integer{typed{"T"}, 1}),
		"a protocol's name for an int":  put(integer{typed{"S"}, 1}),
		"a declared int's for a text":   put(text{typed{"K"}, "a"}),
		"a nan of other bits":           put(float{typed{"float"}, 0x7ff8000000000002}),
		"a nan below 0":                 put(float{typed{"float"}, 0xfff8000000000001}),
		"a nan that signals":            put(float{typed{"float"}, 0x7ff0000000000001}),
		"a pointer to no struct type":   put(pointer{typed: typed{"K"}}),
		"a pointer to a protocol":       put(pointer{typed: typed{"S"}}),
		"a struct of nothing":           put(&structure{typed{"K"}, nil, 1}),
		"a struct without its parts":    put(&structure{typed{"T"}, []value{nothing{}}, 2}),
		"a struct with an int embedded": put(newStructure("E", []value{intOf(1), noneOf(api.KPointer, "Q"), nothing{}})),
		"with nil embedded":             put(newStructure("E", []value{nothing{}, noneOf(api.KPointer, "Q"), nothing{}})),
		"with another pointer embedded": put(newStructure("E", []value{newStructure("T", []value{nothing{}, nothing{}}), noneOf(api.KPointer, "T"), nothing{}})),
		"with what lacks a method":      put(newStructure("R", []value{intOf(1)})),
		"a struct that is too large":    put(nested(50)),
		"nested very deep":              put(nested(200)),
	}
}

// nested is structs within one another.
func nested(n int) value {
	v := value(nothing{})
	for range n {
		v = newStructure("T", []value{v, intOf(1)})
	}
	return v
}

func brokenNodes() map[string]func(*Machine) {
	return map[string]func(*Machine){
		"a piece beyond its array": func(m *Machine) { l := global[list](m, 0); l.capacity++; m.globals[0].held = l },
		"a piece from beyond":      func(m *Machine) { l := global[list](m, 0); l.from++; m.globals[0].held = l },
		"longer than it may reach": func(m *Machine) { l := global[list](m, 0); l.capacity--; m.globals[0].held = l },
		"from below 0":             func(m *Machine) { l := global[list](m, 0); l.from = -1; m.globals[0].held = l },
		"a key twice": func(m *Machine) {
			s := global[mapping](m, 1).store
			s.entries = append(s.entries, &entry{key: intOf(1), held: nothing{}})
		},
		"a list as a key": func(m *Machine) {
			s := global[mapping](m, 1).store
			s.entries = append(s.entries, &entry{key: global[list](m, 0), held: nothing{}})
		},
		"a path to no struct":         func(m *Machine) { p := global[pointer](m, 2); p.name, p.path = "T", []int{2}; m.globals[2].held = p },
		"a path through a pointer":    func(m *Machine) { p := global[pointer](m, 2); p.name, p.path = "Q", []int{1}; m.globals[2].held = p },
		"a path beyond the fields":    func(m *Machine) { p := global[pointer](m, 2); p.path = []int{3}; m.globals[2].held = p },
		"a path that is much too far": func(m *Machine) { p := global[pointer](m, 2); p.path = []int{30}; m.globals[2].held = p },
		"a pointer to another type":   func(m *Machine) { p := global[pointer](m, 2); p.name = "T"; m.globals[2].held = p },
		"a part of another type":      func(m *Machine) { p := global[pointer](m, 2); p.path = []int{0}; m.globals[2].held = p },
		"an object that is another struct": func(m *Machine) {
			global[pointer](m, 2).object.held = newStructure("Q", []value{nothing{}})
		},
		"a function that is no method": func(m *Machine) { global[function](m, 3).callee.(*bound).routine = m.methods["main"] },
		"another type's method":        func(m *Machine) { global[function](m, 3).callee.(*bound).routine = m.methods["K.sum"] },
		"a value's method of a pointer": func(m *Machine) {
			global[function](m, 3).callee.(*bound).routine = m.methods["T.sum"]
		},
		"a receiver that is none": func(m *Machine) { global[function](m, 3).callee.(*bound).receiver = nothing{} },
		"a receiver by value": func(m *Machine) {
			global[function](m, 3).callee.(*bound).receiver = newStructure("T", []value{nothing{}, nothing{}})
		},
		"an expression of no method": func(m *Machine) { global[function](m, 4).callee.(*expression).what = "other" },
		"an expression of a field":   func(m *Machine) { global[function](m, 4).callee.(*expression).what = "z" },
		"an expression by value":     func(m *Machine) { global[function](m, 4).callee.(*expression).pointer = false },
		"Error of no fault": func(m *Machine) {
			global[function](m, 7).callee.(*faultError).receiver = global[pointer](m, 2)
		},
		"a literal that is declared":   func(m *Machine) { global[function](m, 8).callee.(*closure).routine = m.methods["main"] },
		"the beginning as a literal":   func(m *Machine) { global[function](m, 8).callee.(*closure).routine = m.routines[0] },
		"a literal as a declared one":  func(m *Machine) { m.globals[8].held = funcOf(m.routines[len(m.routines)-1]) },
		"the beginning as a func":      func(m *Machine) { m.globals[8].held = funcOf(m.routines[0]) },
		"an element that is no number": func(m *Machine) { global[list](m, 0).array.elements[0] = float{typed{"int"}, 1} },
	}
}

func brokenThings() map[string]func(*Machine) {
	return map[string]func(*Machine){
		"a turn that is too far":        func(m *Machine) { stacked(m, func(x *count) thing { x.now = x.upTo + 1; return x }) },
		"a turn from below 0":           func(m *Machine) { stacked(m, func(x *count) thing { x.now = -1; return x }) },
		"a number below 0":              func(m *Machine) { stacked(m, func(x *count) thing { x.upTo = -1; return x }) },
		"a text's turn that is too far": func(m *Machine) { stacked(m, func(x *bytes) thing { x.now = 4; return x }) },
		"a list's turn that is too far": func(m *Machine) { stacked(m, func(x *elements) thing { x.now = x.of.length + 1; return x }) },
		"a map's turn that is too far":  func(m *Machine) { stacked(m, func(x *keys) thing { x.now = len(x.were) + 1; return x }) },
		"a map's turn from below 0":     func(m *Machine) { stacked(m, func(x *keys) thing { x.now = -1; return x }) },
		"keys of no map":                func(m *Machine) { stacked(m, func(x *keys) thing { x.of = nil; return x }) },
		"a key of no map": func(m *Machine) {
			stacked(m, func(x *keys) thing { x.of, x.were, x.now = nil, x.were[:1], 0; return x })
		},
		"a turn's key that is a list": func(m *Machine) {
			stacked(m, func(x *keys) thing { x.were[0].key = global[list](m, 0); return x })
		},
		"a place beyond an array": func(m *Machine) {
			stacked(m, func(x member) thing { return element{global[list](m, 0).array, 8} })
		},
		"a place under a list": func(m *Machine) {
			stacked(m, func(x member) thing { return underKey{global[mapping](m, 1).store, global[list](m, 0)} })
		},
		"a place of nothing": func(m *Machine) {
			stacked(m, func(x member) thing { return target{pointer{typed: typed{"T"}}} })
		},
		"a field of no field": func(m *Machine) {
			stacked(m, func(x member) thing { return member{root: x.root} })
		},
		"a field that is too far": func(m *Machine) {
			stacked(m, func(x member) thing { return member{x.root, []string{"E"}, []int{3}} })
		},
		"a field of no struct": func(m *Machine) {
			stacked(m, func(x member) thing { return member{x.root, []string{"K"}, []int{0}} })
		},
		"a field at a key": func(m *Machine) {
			stacked(m, func(x member) thing {
				return member{underKey{global[mapping](m, 1).store, nothing{}}, x.names, x.path}
			})
		},
		"a field of a field": func(m *Machine) {
			stacked(m, func(x member) thing { return member{x, x.names, x.path} })
		},
	}
}

// A call that is panicking has the answer that it had ahead of that.
func TestAnswerOfWhatPanics(t *testing.T) {
	m, p, table := ending(t)
	m.calls[1].answer = m.newList("list", nils(2), 2)
	b, err := m.Save()
	if err != nil {
		t.Fatal("P16.4:", err)
	}
	again, err := Load(b, p, table)
	if err != nil {
		t.Fatal("P16.4: an answer of what is panicking:", err)
	}
	if l, is := again.calls[1].answer.(list); !is || l.length != 2 || !again.calls[1].panicking {
		t.Errorf("P16.4: the answer is another one: %v", again.calls[1].answer)
	}
	if m.Collect() != again.Collect() || m.Things() != again.Things() {
		t.Errorf("P16.4: %d things are left; of what was loaded %d", m.Things(), again.Things())
	}
}

// What is unusual, and may be: it is taken.
func TestUnusualMachines(t *testing.T) {
	for what, changes := range map[string]func(*Machine){
		"a struct of the greatest size": func(m *Machine) { m.globals[4].held = nested(49) },
		"the nan":                       func(m *Machine) { m.globals[4].held = float{typed{"float"}, 0x7ff8000000000001} },
		"below 0 without end":           func(m *Machine) { m.globals[4].held = float{typed{"float"}, 0xfff0000000000000} },
		"all room":                      func(m *Machine) { m.room = api.MaxRoom },
		"lines that took all of it":     func(m *Machine) { m.out, m.room = []string{"abc", "", "abc"}, 6 },
		"the greatest depth":            func(m *Machine) { m.depth = api.MaxDepth },
		"just this depth":               func(m *Machine) { m.depth = len(m.calls) - 1 },
		"a place of an element": func(m *Machine) {
			stacked(m, func(x member) thing { return element{global[list](m, 0).array, 7} })
		},
		"a place of a key": func(m *Machine) {
			stacked(m, func(x member) thing { return underKey{global[mapping](m, 1).store, intOf(9)} })
		},
		"a place of an object": func(m *Machine) {
			stacked(m, func(x member) thing { return target{global[pointer](m, 2)} })
		},
		"a part": func(m *Machine) {
			p := global[pointer](m, 2)
			m.globals[4].held = pointer{typed{"T"}, p.object, []int{0}}
		},
		"turns at their ends": func(m *Machine) {
			stacked(m, func(x *keys) thing { x.now = len(x.were); return x })
			stacked(m, func(x *elements) thing { x.now = x.of.length; return x })
			stacked(m, func(x *bytes) thing { x.now = 3; return x })
			stacked(m, func(x *count) thing { x.now = x.upTo; return x })
		},
		"laid down, of nil": func(m *Machine) { m.top().laid = []laid{laidCall{called: nothing{}, at: api.MaxSource}} },
	} {
		m, p, table := midst(t)
		changes(m)
		b, err := m.Save()
		if err != nil {
			t.Fatal(what, err)
		}
		again, err := Load(b, p, table)
		if err != nil {
			t.Errorf("P16.4: %s: %v", what, err)
			continue
		}
		again.Run(500)
		if again.Collect(); again.Collect() != 0 {
			t.Errorf("P16.8: %s: a second Collect forgets something", what)
		}
	}
}
