package names_test

import (
	"slices"

	"guise/api"
	"guise/names"
)

// The chapter a second time, in another way: all nodes stand in a list, with what they stand in; a variable is seen in a span of
// nodes' numbers; each question is asked of the list.

type spot struct {
	*api.Node
	number, end int // end: the first number behind it
	in          *spot
	index       int // which Kid it is
	kids        []*spot
}

type variable struct {
	name     string
	at       *spot // the node that declares it
	function *spot
	scope    *spot
	from, to int // it is seen from that number on, up to the other one
	slot     int
}

// thing is what a name stands for.
type thing struct {
	what     string // "" (nothing), variable, func, kind, struct, protocol, call
	use      names.Use
	kind     string // of a kind type
	fields   []string
	variable *variable
}

type model struct {
	spots     []*spot
	variables []*variable
	declaring map[*spot]*variable
	called    map[string][]*variable
}

func modelOf(n *api.Node) *model {
	m := &model{declaring: map[*spot]*variable{}, called: map[string][]*variable{}}
	m.lay(n, nil, 0)
	for _, s := range m.spots {
		m.declares(s)
	}
	return m
}

func (m *model) lay(n *api.Node, in *spot, index int) *spot {
	s := &spot{Node: n, number: len(m.spots), in: in, index: index}
	m.spots = append(m.spots, s)
	for i := range n.Kids {
		s.kids = append(s.kids, m.lay(&n.Kids[i], s, i))
	}
	s.end = len(m.spots)
	return s
}

func isFunction(s *spot) bool {
	return s.Kind == api.NFunc || s.Kind == api.NMethodDecl || s.Kind == api.NLiteral
}

// function is the function in which a node stands.
func (s *spot) function() *spot {
	for o := s.in; o != nil; o = o.in {
		if isFunction(o) {
			return o
		}
	}
	return nil
}

// body is the last Kid.
func (s *spot) body() *spot { return s.kids[len(s.kids)-1] }

// blockScope is the scope of what stands in a block itself.
func blockScope(block *spot) *spot {
	if isFunction(block.in) {
		return block.in
	}
	return block
}

func (m *model) add(v variable) {
	v.function = v.at.function()
	for _, o := range m.variables {
		if o.function == v.function {
			v.slot++
		}
	}
	m.variables = append(m.variables, &v)
	m.declaring[v.at] = &v
	m.called[v.name] = append(m.called[v.name], &v)
}

// declares adds the variable that a node declares.
func (m *model) declares(s *spot) {
	if s.in == nil {
		return
	}
	switch in := s.in; {
	case s.Kind == api.NDefine:
		m.add(variable{name: s.Text, at: s, scope: blockScope(in), from: s.end, to: in.end})
	case s.Kind == api.NName && in.Kind == api.NDefineTwo && s.index < 2:
		m.add(variable{name: s.Text, at: s, scope: blockScope(in.in), from: in.end, to: in.in.end})
	case s.Kind == api.NName && in.Kind == api.NRange && s.index < 2:
		m.add(variable{name: s.Text, at: s, scope: in, from: in.body().number, to: in.end})
	case s.Kind == api.NReceiver:
		m.add(variable{name: s.Text, at: s, scope: in, from: in.body().number, to: in.end})
	case in.Kind == api.NParams:
		m.add(variable{name: s.Text, at: s, scope: in.in, from: in.in.body().number, to: in.in.end})
	case s.Kind == api.NCase && in.Kind == api.NTypeSwitch && in.kids[0].Kind == api.NName:
		m.add(variable{name: in.kids[0].Text, at: s, scope: s.body(), from: s.body().number, to: s.end})
	}
}

// beginning is what the language has.
func beginning(name string) thing {
	types := []string{"any", "bool", "error", "fault", "float", "func", "int", "list", "map", "text"}
	whats := []string{"protocol", "kind", "protocol", "struct", "kind", "kind", "kind", "kind", "kind", "kind"}
	calls := []string{"append", "cap", "copy", "delete", "len", "make", "panic", "print", "recover", "show", "typeof"}
	if i := slices.Index(types, name); i >= 0 {
		out := thing{what: whats[i], use: names.Use{Kind: names.TypeOf, Slot: -(i + 1)}, kind: name}
		if name == "fault" {
			out.fields = []string{"more", "word"}
		}
		return out
	}
	if i := slices.Index(calls, name); i >= 0 {
		return thing{what: "call", use: names.Use{Kind: names.Builtin, Slot: i}}
	}
	return thing{}
}

// declared is what a declaration of the program makes its name stand for.
func (m *model) declared(d *spot) thing {
	ahead := func(kinds ...int) int {
		count := 0
		for _, o := range m.spots[0].kids[:d.index] {
			if slices.Contains(kinds, o.Kind) {
				count++
			}
		}
		return count
	}
	switch d.Kind {
	case api.NVar:
		return thing{what: "variable", use: names.Use{Kind: names.Global, Slot: ahead(api.NVar)}}
	case api.NFunc:
		return thing{what: "func", use: names.Use{Kind: names.Routine, Slot: ahead(api.NFunc)}}
	case api.NType, api.NStruct, api.NProtocol:
		out := thing{what: "kind", use: names.Use{Kind: names.TypeOf, Slot: ahead(api.NType, api.NStruct, api.NProtocol)}}
		if d.Kind == api.NProtocol {
			out.what = "protocol"
		} else if d.Kind == api.NType {
			out.kind = d.Kids[0].Text
		} else {
			out.what = "struct"
			for _, f := range d.Kids {
				out.fields = append(out.fields, f.Text)
			}
		}
		return out
	}
	return thing{}
}

// standsFor is what a name stands for at a node.
func (m *model) standsFor(name string, at *spot) thing {
	var best *variable
	for _, v := range m.called[name] {
		if v.from <= at.number && at.number < v.to && (best == nil || v.scope.number > best.scope.number) {
			best = v
		}
	}
	if best != nil {
		up := 0
		for f := at.function(); f != best.function; f = f.function() {
			up++
		}
		return thing{what: "variable", use: names.Use{Kind: names.Local, Slot: best.slot, Up: up}, variable: best}
	}
	for _, d := range m.spots[0].kids {
		if d.Text == name && d.Kind != api.NMethodDecl {
			return m.declared(d)
		}
	}
	return beginning(name)
}

// role is what an NName, or NMake, is where it stands: expression, place, type, pointed (a type in an NPointer), made, or nothing.
func role(s *spot) string {
	in := s.in
	switch {
	case s.Kind == api.NMake:
		return "made"
	case s.Kind != api.NName || s.Text == "true" || s.Text == "false" || s.Text == "nil":
		return ""
	}
	switch in.Kind {
	case api.NPointer:
		if in.in.Kind == api.NReceiver {
			return ""
		}
		return "pointed"
	case api.NType, api.NReceiver, api.NParams:
		return ""
	case api.NDefineTwo, api.NRange:
		if s.index < 2 {
			return ""
		}
	case api.NTypeSwitch:
		if s.index == 0 {
			return ""
		}
	case api.NAssign, api.NStep:
		if s.index == 0 {
			return "place"
		}
	case api.NAssignTwo:
		if s.index < 2 {
			return "place"
		}
	case api.NAssert:
		if s.index == 1 {
			return "type"
		}
	case api.NNilOf:
		return "type"
	case api.NList:
		if in.in.Kind == api.NCase && in.in.in.Kind == api.NTypeSwitch {
			return "type"
		}
	}
	return "expression"
}

// fits tells whether a node may stand for something.
func fits(s *spot, t thing) bool {
	is := func(whats ...string) bool { return slices.Contains(whats, t.what) }
	switch role(s) {
	case "place":
		return is("variable")
	case "made", "pointed":
		return is("struct")
	case "type":
		if s.in.Kind == api.NNilOf {
			return is("kind") && slices.Contains([]string{"list", "map", "func"}, t.kind)
		}
		return is("kind", "struct", "protocol")
	}
	in := s.in
	switch {
	case is("variable", "func"):
		return true
	case in.Kind == api.NCall && s.index == 0:
		statement := in.in.Kind == api.NDo || in.in.Kind == api.NDefer
		return is("call") || is("kind") && len(in.kids) == 2 && !statement
	case in.Kind == api.NSelect:
		return is("kind", "struct")
	}
	return is("struct") && in.Kind == api.NUnary && in.Text == "*" && in.in.Kind == api.NSelect
}

// breakables are the loops and switches around a node in its function, from within.
func breakables(s *spot) []*spot {
	var out []*spot
	for o := s.in; o != nil && !isFunction(o); o = o.in {
		switch o.Kind {
		case api.NFor, api.NRange, api.NSwitch, api.NTypeSwitch:
			out = append(out, o)
		}
	}
	return out
}

func isLoop(s *spot) bool { return s.Kind == api.NFor || s.Kind == api.NRange }

// labelWrong: the chapter's ErrLabel.
func labelWrong(s *spot) bool {
	around := breakables(s)
	switch s.Kind {
	case api.NFor, api.NRange, api.NSwitch, api.NTypeSwitch:
		return s.Text != "" && slices.ContainsFunc(around, func(o *spot) bool { return o.Text == s.Text })
	case api.NContinue:
		around = slices.DeleteFunc(around, func(o *spot) bool { return !isLoop(o) })
		fallthrough
	case api.NBreak:
		if s.Text == "" {
			return len(around) == 0
		}
		return !slices.ContainsFunc(around, func(o *spot) bool { return o.Text == s.Text })
	case api.NFall:
		block := s.in
		c := block.in
		if c.Kind != api.NCase || c.in.Kind != api.NSwitch {
			return true
		}
		return s != block.kids[len(block.kids)-1] || c == c.in.kids[len(c.in.kids)-1]
	}
	return false
}

// twice: the chapter's ErrTwice, and the name.
func (m *model) twice(s *spot) (string, bool) {
	if s.in != nil && s.in.Kind == api.NProgram && s.Kind != api.NMethodDecl {
		for _, d := range m.spots[0].kids[:s.index] {
			if d.Kind != api.NMethodDecl && d.Text == s.Text {
				return s.Text, true
			}
		}
		first := beginning(s.Text).what
		return s.Text, first != "" && first != "call"
	}
	if v := m.declaring[s]; v != nil {
		for _, o := range m.called[v.name] {
			if o.scope == v.scope && o.at.number < s.number {
				return v.name, true
			}
		}
	}
	if s.Kind == api.NPair && s.in.Kind == api.NMake {
		for _, o := range s.in.kids[:s.index] {
			if o.Text == s.Text {
				return s.Text, true
			}
		}
	}
	return "", false
}

// wrongAt tells what is wrong with a node: a code (OK: nothing), and the name.
func (m *model) wrongAt(s *spot) (api.Errno, string) {
	if name, is := m.twice(s); is {
		return api.ErrTwice, name
	}
	if role(s) != "" {
		t := m.standsFor(s.Text, s)
		if t.what == "" {
			return api.ErrUnknown, s.Text
		}
		if !fits(s, t) {
			return api.ErrUse, s.Text
		}
	}
	if s.Kind == api.NPair && s.in.Kind == api.NMake && !slices.Contains(m.standsFor(s.in.Text, s.in).fields, s.Text) {
		return api.ErrUnknown, s.Text
	}
	if labelWrong(s) {
		return api.ErrLabel, s.Text
	}
	return api.OK, ""
}

// wrong is what is wrong first with a program, and where; nil: nothing.
func (m *model) wrong() (*api.Wrong, *spot) {
	for _, s := range m.spots {
		if code, name := m.wrongAt(s); code != api.OK {
			return &api.Wrong{Code: code, At: s.At, Name: name}, s
		}
	}
	at := m.spots[0]
	for _, d := range at.kids {
		if d.Kind == api.NFunc && d.Text == "main" {
			if len(d.kids[0].kids) == 0 {
				return nil, nil
			}
			at = d
		}
	}
	return &api.Wrong{Code: api.ErrMain, At: at.At, Name: "main"}, at
}

// bound is what the chapter says of a program with which nothing is wrong.
func (m *model) bound() names.Bound {
	var out names.Bound
	taken := map[*variable]int{}
	for _, s := range m.spots {
		var use names.Use
		if v := m.declaring[s]; v != nil {
			use = names.Use{Kind: names.Local, Slot: v.slot}
		} else if s.in != nil && s.in.Kind == api.NProgram {
			use = m.declared(s).use
		} else if role(s) != "" {
			t := m.standsFor(s.Text, s)
			use = t.use
			if t.variable != nil && s.function() != t.variable.function {
				taken[t.variable]++
			}
		}
		if use.Kind != 0 {
			use.Node = s.number
			out.Uses = append(out.Uses, use)
		}
	}
	for _, s := range m.spots {
		if isFunction(s) {
			f := names.Func{Node: s.number}
			for _, v := range m.variables {
				if v.function == s {
					f.Slots++
					if taken[v] > 0 {
						f.Taken = append(f.Taken, v.slot)
					}
				}
			}
			out.Funcs = append(out.Funcs, f)
		}
	}
	return out
}
