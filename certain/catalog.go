package certain

import (
	"slices"
	"strings"

	"guise/api"
	"guise/types"
)

const (
	nilName   = "nil"
	faultName = "fault"
	funcName  = "func"
	listName  = "list"
	mapName   = "map"
	intName   = "int"
	textName  = "text"
	boolName  = "bool"
	floatName = "float"
)

// catalog is the types that values can have; their numbers rise as their names do.
type catalog struct {
	table   *types.Table
	all     []valueType
	numbers map[string]int
	every   set
	kinds   [api.KStruct + 1]set
	held    map[string]set // by what is asked for
	members map[string]member
}

// valueType is a type, by the name that typeof tells.
type valueType struct {
	name    string
	base    string // of a pointer what it leads to; else the name
	pointer bool
}

// member is of which types a name is a field, and of which a method, as far as these were asked.
type member struct{ asked, fields, methods set }

func catalogOf(table *types.Table) *catalog {
	c := &catalog{table: table, numbers: map[string]int{}, held: map[string]set{}, members: map[string]member{}}
	given := []string{boolName, intName, floatName, textName, listName, mapName, funcName}
	c.all = append(c.all, valueType{name: nilName, base: nilName})
	for _, name := range append(given, table.Names()...) {
		c.all = append(c.all, valueType{name: name, base: name})
		if kind, _ := table.Under(name); kind == api.KStruct {
			c.all = append(c.all, valueType{name: "*" + name, base: name, pointer: true})
		}
	}
	slices.SortFunc(c.all, func(a, b valueType) int { return strings.Compare(a.name, b.name) })
	for i, t := range c.all {
		c.numbers[t.name] = i
		c.every = c.every.with(one(i))
		kind, _ := table.Under(t.name)
		c.kinds[kind] = c.kinds[kind].with(one(i))
	}
	return c
}

// just is the one type of a name.
func (c *catalog) just(name string) set { return one(c.numbers[name]) }

func (c *catalog) ofKinds(kinds ...int) set {
	var s set
	for _, kind := range kinds {
		s = s.with(c.kinds[kind])
	}
	return s
}

// chosen are the types of which something is so.
func (c *catalog) chosen(is func(valueType) bool) set {
	var s set
	for i, t := range c.all {
		if is(t) {
			s = s.with(one(i))
		}
	}
	return s
}

// holding are the types that hold one that is asked for, or a protocol. Nil holds nothing, but where it is asked for itself.
func (c *catalog) holding(want string) set {
	if _, is := c.numbers[want]; is {
		return c.just(want)
	}
	s, known := c.held[want]
	if !known {
		s = c.chosen(func(t valueType) bool {
			_, lacks := c.table.Lacks(t.base, t.pointer, want)
			return t.name != nilName && !lacks
		})
		c.held[want] = s
	}
	return s
}

// member asks of what a name is of some types, each of them once.
func (c *catalog) member(name string, of set) member {
	m := c.members[name]
	left := of.without(m.asked)
	if left.empty() {
		return m
	}
	for i, t := range c.all {
		if !left.has(i) {
			continue
		}
		switch c.table.Find(t.base, t.pointer, name).Kind {
		case api.FoundField:
			m.fields = m.fields.with(one(i))
		case api.FoundMethod, api.FoundProtocol:
			m.methods = m.methods.with(one(i))
		}
	}
	m.asked = m.asked.with(left)
	c.members[name] = m
	return m
}

// pointed are the types to which the pointers among some lead.
func (c *catalog) pointed(s set) set {
	var out set
	for i, t := range c.all {
		if t.pointer && s.has(i) {
			out = out.with(c.just(t.base))
		}
	}
	return out
}

func (c *catalog) names(s set) []string {
	var out []string
	for i, t := range c.all {
		if s.has(i) {
			out = append(out, strings.Clone(t.name))
		}
	}
	return out
}

// typeName is what a type of a tree is called.
func typeName(n api.Node) string {
	if n.Kind == api.NPointer {
		return "*" + n.Kids[0].Text
	}
	return n.Text
}
