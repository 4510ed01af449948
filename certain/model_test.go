package certain_test

import (
	"fmt"
	"maps"
	"slices"
	"strings"

	"guise/api"
	"guise/certain"
	"guise/types"
)

// A second way through the chapter: sets of texts under names (`V 3`, `F x`, `R T.m`, `L`), the whole program gone over again and again, as the tables are written, with scopes of its own, till nothing comes any more. (It knows nodes of claims by their places, so these must be unlike.)

type bag map[string]bool

func bagOf(types ...string) bag {
	b := bag{}
	for _, t := range types {
		b[t] = true
	}
	return b
}

func (b bag) where(is func(t string) bool) bag {
	out := bag{}
	for t := range b {
		if is(t) {
			out[t] = true
		}
	}
	return out
}

func (b bag) any(is func(t string) bool) bool { return len(b.where(is)) > 0 }

func (b bag) told() string { return strings.Join(slices.Sorted(maps.Keys(b)), " ") }

type modelFunc struct {
	params []string // the names of their sets
	method bool
	answer string
}

type model struct {
	table     *types.Table
	sets      map[string]bag
	grown     bool
	structs   map[string]bool // fields of struct types
	routines  map[string]bool
	declared  map[string]modelFunc
	loose     map[string]modelFunc
	scopes    []map[string]string // the names of variables' sets
	count     int                 // variables and literals of this round
	answers   []string            // of the functions around
	asserted  map[int]bag         // by the node's place
	switched  map[int]bag
	variables []string
}

func newModel(n api.Node) *model {
	table, err := types.Make(n)
	if err != nil {
		panic(err)
	}
	m := &model{table: table, sets: map[string]bag{}, structs: map[string]bool{}, routines: map[string]bool{}, declared: map[string]modelFunc{}, loose: map[string]modelFunc{}, asserted: map[int]bag{}, switched: map[int]bag{}}
	m.begin(n)
	for round := 0; round < 3 || m.grown; round++ {
		m.grown, m.count = false, 0
		m.round(n)
	}
	return m
}

func (m *model) put(set string, b bag) {
	s := m.sets[set]
	if s == nil {
		s = bag{}
		m.sets[set] = s
	}
	for t := range b {
		if !s[t] {
			s[t] = true
			m.grown = true
		}
	}
}

func (m *model) begin(n api.Node) {
	for _, set := range []string{"L", "M", "F word", "F more"} {
		m.put(set, bagOf("nil"))
	}
	m.put("F word", bagOf("text"))
	m.put("F more", bagOf("text"))
	m.put("Q", bagOf("*fault"))
	m.put("R fault.Error", bagOf("text"))
	m.loose["fault.Error"] = modelFunc{nil, true, "R fault.Error"}
	m.structs["word"], m.structs["more"] = true, true
	for _, d := range n.Kids {
		if d.Kind == api.NFunc {
			m.routines[d.Text] = true
		}
		if d.Kind != api.NStruct {
			continue
		}
		for _, f := range d.Kids {
			m.structs[f.Text] = true
			_, protocol := m.table.Wants(f.Text)
			switch {
			case f.Kind == api.NEmbedPointer:
				m.put("F "+f.Text, bagOf("*"+f.Text))
			case f.Kind == api.NEmbed && !protocol:
				m.put("F "+f.Text, bagOf(f.Text))
			default:
				m.put("F "+f.Text, bagOf("nil"))
			}
		}
	}
}

func (m *model) fresh(prefix string) string {
	m.count++
	return fmt.Sprint(prefix, " ", m.count)
}

func (m *model) declare(name string) string {
	set := m.fresh("V")
	m.scopes[len(m.scopes)-1][name] = set
	return set
}

// scope does something in a scope of its own.
func (m *model) scope(do func()) {
	m.scopes = append(m.scopes, map[string]string{})
	do()
	m.scopes = m.scopes[:len(m.scopes)-1]
}

func (m *model) seen(name string) string {
	for _, s := range slices.Backward(m.scopes) {
		if set, has := s[name]; has {
			return set
		}
	}
	return ""
}

func (m *model) round(n api.Node) {
	m.variables = nil
	m.scope(func() {
		for _, d := range n.Kids {
			if d.Kind == api.NVar {
				m.scopes[0][d.Text] = "G " + d.Text
				m.put("G "+d.Text, bagOf("nil"))
				m.variables = append(m.variables, d.Text)
			}
		}
		for _, d := range n.Kids {
			switch d.Kind {
			case api.NVar:
				m.put("G "+d.Text, m.e(d.Kids[0]))
			case api.NFunc:
				m.function(d, d.Text)
			case api.NMethodDecl:
				of := typeText(d.Kids[0].Kids[0])
				m.function(d, strings.TrimPrefix(of, "*")+"."+d.Text)
			}
		}
	})
}

// function goes over one; title is by what it is known.
func (m *model) function(n api.Node, title string) {
	f := modelFunc{method: n.Kind == api.NMethodDecl, answer: "R " + title}
	m.put(f.answer, bagOf("nil"))
	m.answers = append(m.answers, f.answer)
	m.scope(func() {
		for _, kid := range n.Kids {
			switch kid.Kind {
			case api.NReceiver:
				m.put(m.declare(kid.Text), bagOf(typeText(kid.Kids[0])))
			case api.NParams:
				for _, p := range kid.Kids {
					f.params = append(f.params, m.declare(p.Text))
				}
			}
		}
		m.declared[title] = f
		if n.Kind != api.NFunc {
			m.loose[title] = f
		}
		m.statements(n.Kids[len(n.Kids)-1].Kids)
	})
	m.answers = m.answers[:len(m.answers)-1]
}

func (m *model) statements(l []api.Node) {
	for _, s := range l {
		m.statement(s)
	}
}

func (m *model) block(n api.Node) { m.scope(func() { m.statements(n.Kids) }) }

func (m *model) statement(n api.Node) {
	switch n.Kind {
	case api.NBlock:
		m.block(n)
	case api.NDefine:
		b := m.e(n.Kids[0])
		m.put(m.declare(n.Text), b)
	case api.NDefineTwo:
		b := m.two(n.Kids[2])
		m.put(m.declare(n.Kids[0].Text), b)
		m.put(m.declare(n.Kids[1].Text), bagOf("bool"))
	case api.NAssignTwo:
		m.put(m.seen(n.Kids[0].Text), m.two(n.Kids[2]))
		m.put(m.seen(n.Kids[1].Text), bagOf("bool"))
	case api.NAssign:
		m.assign(n.Kids[0], strings.TrimSuffix(n.Text, "="), n.Kids[1])
	case api.NIf:
		m.e(n.Kids[0])
		m.block(n.Kids[1])
		m.statement(n.Kids[2])
	case api.NFor:
		if n.Kids[0].Kind != api.NNone {
			m.e(n.Kids[0])
		}
		m.block(n.Kids[1])
	case api.NRange:
		m.ranged(n)
	case api.NSwitch:
		if n.Kids[0].Kind != api.NNone {
			m.e(n.Kids[0])
		}
		for _, c := range n.Kids[1:] {
			for _, v := range c.Kids[0].Kids {
				m.e(v)
			}
			m.block(c.Kids[1])
		}
	case api.NTypeSwitch:
		m.typeSwitch(n)
	case api.NReturn:
		if n.Kids[0].Kind != api.NNone {
			m.put(m.answers[len(m.answers)-1], m.e(n.Kids[0]))
		}
	case api.NDefer, api.NDo, api.NStep:
		m.e(n.Kids[0])
	}
}

func (m *model) two(n api.Node) bag {
	b := m.e(n)
	if n.Kind == api.NIndex {
		b = maps.Clone(m.sets["M"])
	}
	b["nil"] = true
	return b
}

func (m *model) assign(p api.Node, op string, e api.Node) {
	value := func() bag {
		if op == "" {
			return m.e(e)
		}
		return m.binary(op, m.e(p), m.e(e))
	}
	switch p.Kind {
	case api.NName:
		m.put(m.seen(p.Text), value())
	case api.NUnary:
		m.e(p)
		m.e(e)
	case api.NSelect:
		if op == "" && !m.typed(p.Kids[0]) {
			m.e(p.Kids[0])
		}
		b := value()
		if m.structs[p.Text] && !m.typed(p.Kids[0]) {
			m.put("F "+p.Text, b)
		}
	case api.NIndex:
		of, key, b := m.e(p.Kids[0]), m.e(p.Kids[1]), m.e(e)
		if op != "" {
			b = m.binary(op, m.element(of), b)
		}
		if of.any(m.kind("list")) {
			m.put("L", b)
		}
		if of.any(m.kind("map")) {
			m.put("M", b)
			m.put("K", key)
		}
	}
}

func (m *model) ranged(n api.Node) {
	of := m.e(n.Kids[2])
	m.scope(func() {
		var names [2]string
		for i, kid := range n.Kids[:2] {
			if kid.Kind != api.NNone {
				names[i] = m.declare(kid.Text)
			}
		}
		put := func(kind string, first, second bag) {
			if of.any(m.kind(kind)) {
				for i, b := range []bag{first, second} {
					if names[i] != "" {
						m.put(names[i], b)
					}
				}
			}
		}
		put("int", bagOf("int"), bagOf("nil"))
		put("list", bagOf("int"), m.sets["L"])
		put("text", bagOf("int"), bagOf("int"))
		put("map", m.sets["K"], m.sets["M"])
		m.block(n.Kids[3])
	})
}

func (m *model) typeSwitch(n api.Node) {
	of := m.e(n.Kids[1])
	var cases [][]string // the types of each
	for _, c := range n.Kids[2:] {
		var l []string
		for _, t := range c.Kids[0].Kids {
			l = append(l, typeText(t))
		}
		cases = append(cases, l)
	}
	for i, c := range n.Kids[2:] {
		m.switched[c.At] = of.where(func(t string) bool { return !m.holdsOne(t, cases[:i]) })
		comes := m.switched[c.At].where(func(t string) bool { return m.holdsOne(t, cases[i:i+1]) })
		if c.Kids[0].Kind == api.NNone {
			comes = of.where(func(t string) bool { return !m.holdsOne(t, cases) })
		}
		m.scope(func() {
			if n.Kids[0].Kind != api.NNone {
				m.put(m.declare(n.Kids[0].Text), comes)
			}
			m.statements(c.Kids[1].Kids)
		})
	}
}

func (m *model) holdsOne(t string, lists [][]string) bool {
	return slices.ContainsFunc(slices.Concat(lists...), func(x string) bool { return m.holds(t, x) })
}

// holds is HOLDS, of a type's name and another one's, a protocol's, or nil.
func (m *model) holds(t, x string) bool {
	if t == "nil" || t == x {
		return t == x
	}
	if _, protocol := m.table.Wants(x); !protocol {
		return false
	}
	_, lacks := m.table.Lacks(strings.TrimPrefix(t, "*"), t[0] == '*', x)
	return !lacks
}

// kind asks for types of some kinds.
func (m *model) kind(kinds ...string) func(string) bool {
	all := []string{"", "bool", "int", "float", "text", "list", "map", "func", "struct"}
	return func(t string) bool {
		n, known := m.table.Under(t)
		return known && slices.Contains(kinds, all[n])
	}
}

func typeText(n api.Node) string {
	if n.Kind == api.NPointer {
		return "*" + n.Kids[0].Text
	}
	return n.Text
}

// typed: a method is selected of a type here.
func (m *model) typed(n api.Node) bool {
	if n.Kind == api.NUnary && n.Text == "*" {
		n = n.Kids[0]
	}
	_, is := m.table.Under(n.Text)
	return n.Kind == api.NName && is && m.seen(n.Text) == ""
}

// e is E of an expression, as far as the sets are there; and lays down what its parts give.
func (m *model) e(n api.Node) bag {
	switch n.Kind {
	case api.NName:
		return m.name(n.Text)
	case api.NInt:
		return bagOf("int")
	case api.NFloat:
		return bagOf("float")
	case api.NText:
		return bagOf("text")
	case api.NList:
		for _, kid := range n.Kids {
			m.put("L", m.e(kid))
		}
		return bagOf("list")
	case api.NMap:
		for _, pair := range n.Kids {
			m.put("K", m.e(pair.Kids[0]))
			m.put("M", m.e(pair.Kids[1]))
		}
		return bagOf("map")
	case api.NMake:
		for _, pair := range n.Kids {
			m.put("F "+pair.Text, m.e(pair.Kids[0]))
		}
		return bagOf(n.Text)
	case api.NNew:
		m.e(n.Kids[0])
		return bagOf("*" + n.Kids[0].Text)
	case api.NLiteral:
		m.function(n, m.fresh("literal"))
		return bagOf("func")
	case api.NNilOf:
		return bagOf(typeText(n.Kids[0]))
	case api.NCall:
		return m.call(n.Kids[0], n.Kids[1:])
	case api.NAssert:
		b := m.e(n.Kids[0])
		m.asserted[n.At] = b
		return b.where(func(t string) bool { return m.holds(t, typeText(n.Kids[1])) })
	case api.NSelect:
		return m.selected(n)
	}
	return m.operation(n)
}

func (m *model) name(name string) bag {
	if set := m.seen(name); set != "" {
		return maps.Clone(m.sets[set])
	}
	switch name {
	case "nil":
		return bagOf("nil")
	case "true", "false":
		return bagOf("bool")
	}
	if f, is := m.declared[name]; is {
		m.loose[name] = f
	}
	return bagOf("func")
}

func (m *model) selected(n api.Node) bag {
	if m.typed(n.Kids[0]) {
		return bagOf("func")
	}
	out := bag{}
	for t := range m.e(n.Kids[0]) {
		switch m.table.Find(strings.TrimPrefix(t, "*"), t[0] == '*', n.Text).Kind {
		case api.FoundField:
			maps.Copy(out, m.sets["F "+n.Text])
		case api.FoundMethod, api.FoundProtocol:
			out["func"] = true
		}
	}
	return out
}

func (m *model) operation(n api.Node) bag {
	var parts []bag
	for _, kid := range n.Kids {
		if kid.Kind != api.NNone {
			parts = append(parts, m.e(kid))
		}
	}
	switch n.Kind {
	case api.NIndex:
		return m.element(parts[0])
	case api.NSlice:
		return parts[0].where(m.kind("list", "text"))
	case api.NBinary:
		return m.binary(n.Text, parts[0], parts[1])
	}
	switch n.Text {
	case "-":
		return parts[0].where(m.kind("int", "float"))
	case "^":
		return parts[0].where(m.kind("int"))
	case "!":
		return parts[0].where(m.kind("bool"))
	}
	out := bag{}
	for t := range parts[0] {
		if t[0] == '*' {
			out[t[1:]] = true
		}
	}
	return out
}

func (m *model) element(of bag) bag {
	out := bag{}
	if of.any(m.kind("list")) {
		maps.Copy(out, m.sets["L"])
	}
	if of.any(m.kind("map")) {
		maps.Copy(out, m.sets["M"])
	}
	if of.any(m.kind("text")) {
		out["int"] = true
	}
	return out
}

func (m *model) binary(op string, a, b bag) bag {
	kinds := []string{"int"}
	switch op {
	case "==", "!=", "<", "<=", ">", ">=", "&&", "||":
		return bagOf("bool")
	case "+":
		kinds = []string{"int", "float", "text"}
	case "-", "*", "/":
		kinds = []string{"int", "float"}
	}
	return a.where(func(t string) bool { return b[t] }).where(m.kind(kinds...))
}

func (m *model) call(called api.Node, list []api.Node) bag {
	free := called.Kind == api.NName && m.seen(called.Text) == ""
	_, conversion := m.table.Under(called.Text)
	routine := m.routines[called.Text]
	if !free || called.Text == "nil" || called.Text == "true" || called.Text == "false" {
		m.e(called)
		free = false
	}
	var parts []bag
	for _, n := range list {
		parts = append(parts, m.e(n))
	}
	switch {
	case free && conversion:
		return bagOf(called.Text)
	case free && routine:
		f := m.declared[called.Text] // not there in the first round, if it stands further behind
		if len(f.params) == len(parts) {
			for i, p := range f.params {
				m.put(p, parts[i])
			}
		}
		return m.sets[f.answer].where(func(string) bool { return true })
	case free:
		return m.builtin(called.Text, parts)
	}
	out := bag{}
	for _, f := range m.loose {
		if len(f.params) == len(parts) {
			m.answer(out, f, parts)
		}
		if f.method && len(f.params) == len(parts)-1 {
			m.answer(out, f, parts[1:])
		}
	}
	return out
}

func (m *model) answer(out bag, f modelFunc, parts []bag) {
	maps.Copy(out, m.sets[f.answer])
	for i, p := range f.params {
		m.put(p, parts[i])
	}
}

func (m *model) builtin(name string, parts []bag) bag {
	switch name {
	case "append":
		if len(parts) == 0 {
			return bag{}
		}
		for _, p := range parts[1:] {
			m.put("L", p)
		}
		return parts[0].where(m.kind("list"))
	case "cap", "copy", "len":
		return bagOf("int")
	case "make":
		return bagOf("list")
	case "panic":
		for _, p := range parts {
			m.put("Q", p)
		}
		return bag{}
	case "recover":
		b := maps.Clone(m.sets["Q"])
		b["nil"] = true
		return b
	case "show", "typeof":
		return bagOf("text")
	}
	return bagOf("nil")
}

// claims are Look's, of the nodes in the tree's order.
func (m *model) claims(n api.Node) []certain.Claim {
	var out []certain.Claim
	ask := func(at int, want string, of bag) {
		all, none := true, true
		for t := range of {
			if m.holds(t, want) {
				none = false
			} else {
				all = false
			}
		}
		if all || none {
			out = append(out, certain.Claim{At: at, Want: want, Always: all})
		}
	}
	switch n.Kind {
	case api.NAssert:
		ask(n.At, typeText(n.Kids[1]), m.asserted[n.At])
	case api.NCase:
		of, typed := m.switched[n.At]
		for i, t := range n.Kids[0].Kids {
			if typed {
				ahead := n.Kids[0].Kids[:i]
				ask(n.At, typeText(t), of.where(func(t string) bool {
					return !slices.ContainsFunc(ahead, func(x api.Node) bool { return m.holds(t, typeText(x)) })
				}))
			}
		}
	}
	for _, kid := range n.Kids {
		out = append(out, m.claims(kid)...)
	}
	return out
}
