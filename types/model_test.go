package types_test

import (
	"cmp"
	"slices"
	"strconv"
	"strings"
	"testing"

	"guise/api"
	"guise/parse"
	"guise/types"
)

// model is the chapter once more, in another way: what is there from the beginning is a program's text; all that is wrong is gathered,
// and the least is told; of embedding each way is gone by itself, and the shortest ones are taken.
type model struct {
	given []api.Node
	own   []api.Node
	whole []api.Node              // the declarations of types and protocols, but for the seven
	leads [][]bool                // of each two of them, whether NEmbeds lead from one to the other
	asked map[string][]api.Method // what protocols want, once it was asked
}

const beginning = "type fault struct { word; more }; func (f *fault) Error() { }; protocol error { Error(0) }"

func modelOf(n api.Node) *model {
	given, err := parse.Program(beginning)
	if err != nil {
		panic(err)
	}
	m := &model{given: append(given.Kids, node(api.NProtocol, "any")), own: n.Kids, asked: map[string][]api.Method{}}
	m.whole = slices.DeleteFunc(slices.Concat(m.given, m.own), func(n api.Node) bool { return !declares(n) })
	m.lead()
	return m
}

var seven = []string{"bool", "int", "float", "text", "list", "map", "func"}

func declares(n api.Node) bool {
	return n.Kind == api.NType || n.Kind == api.NStruct || n.Kind == api.NProtocol
}

// one is the declaration of a name; a node of noughts, if there is none.
func (m *model) one(name string) api.Node {
	for _, n := range m.whole {
		if n.Text == name {
			return n
		}
	}
	return api.Node{}
}

func (m *model) known(name string) bool { return slices.Contains(seven, name) || m.one(name).Kind != 0 }

func (m *model) isStruct(name string) bool { return m.one(name).Kind == api.NStruct }

func (m *model) isProtocol(name string) bool { return m.one(name).Kind == api.NProtocol }

// receiver is the NName of a method's type, and whether it stands in an NPointer.
func receiver(d api.Node) (api.Node, bool) {
	r := d.Kids[0].Kids[0]
	if r.Kind == api.NPointer {
		return r.Kids[0], true
	}
	return r, false
}

// complaint is something wrong, and its rank: group, declaration, part, which line of the chapter.
type complaint struct {
	rank  [4]int
	wrong api.Wrong
}

type complaints []complaint

func (c *complaints) add(is bool, group, declaration, part, line int, code api.Errno, n api.Node) {
	if is {
		*c = append(*c, complaint{[4]int{group, declaration, part, line}, api.Wrong{Code: code, At: n.At, Name: n.Text}})
	}
}

// wrong is what is told; nil: nothing.
func (m *model) wrong() *api.Wrong {
	var c complaints
	for i, d := range m.own {
		if declares(d) {
			m.nameOf(&c, i, d)
		}
		switch d.Kind {
		case api.NStruct:
			m.fieldsOf(&c, i, d)
		case api.NProtocol:
			m.wishesOf(&c, i, d)
		case api.NMethodDecl:
			m.methodOf(&c, i, d)
		}
	}
	if len(c) == 0 {
		m.cycles(&c)
	}
	if len(c) == 0 {
		m.sums(&c)
	}
	if len(c) == 0 {
		return nil
	}
	first := slices.MinFunc(c, func(a, b complaint) int { return slices.Compare(a.rank[:], b.rank[:]) })
	return &first.wrong
}

func (m *model) nameOf(c *complaints, i int, d api.Node) {
	ahead := slices.DeleteFunc(slices.Clone(m.own[:i]), func(n api.Node) bool { return !declares(n) })
	same := func(n api.Node) bool { return n.Text == d.Text }
	c.add(slices.Contains(seven, d.Text) || slices.ContainsFunc(m.given, func(n api.Node) bool { return declares(n) && same(n) }) || slices.ContainsFunc(ahead, same), 1, i, 0, 1, api.ErrTwice, d)
	c.add(len(ahead) >= api.MaxTypes, 1, i, 0, 2, api.ErrMany, d)
	if d.Kind == api.NType {
		c.add(!slices.Contains(seven, d.Kids[0].Text), 1, i, 0, 3, api.ErrType, d.Kids[0])
	}
}

func (m *model) fieldsOf(c *complaints, i int, d api.Node) {
	for part, f := range d.Kids {
		for _, g := range d.Kids[:part] {
			c.add(f.Text == g.Text, 2, i, part, 1, api.ErrTwice, f)
		}
		if f.Kind != api.NField {
			c.add(!m.known(f.Text), 2, i, part, 2, api.ErrUnknown, f)
			c.add(!m.isStruct(f.Text) && (f.Kind == api.NEmbedPointer || !m.isProtocol(f.Text)), 2, i, part, 3, api.ErrType, f)
		}
	}
}

func (m *model) wishesOf(c *complaints, i int, d api.Node) {
	for part, w := range d.Kids {
		if w.Kind == api.NEmbed {
			c.add(!m.known(w.Text), 2, i, part, 2, api.ErrUnknown, w)
			c.add(!m.isProtocol(w.Text), 2, i, part, 3, api.ErrType, w)
			continue
		}
		for _, v := range d.Kids[:part] {
			c.add(v.Kind == api.NMethod && v.Text == w.Text, 2, i, part, 1, api.ErrTwice, w)
		}
	}
}

func (m *model) methodOf(c *complaints, i int, d api.Node) {
	r, pointer := receiver(d)
	of := slices.IndexFunc(m.own, func(n api.Node) bool { return declares(n) && n.Text == r.Text })
	c.add(of < 0 || m.own[of].Kind == api.NProtocol || pointer && m.own[of].Kind != api.NStruct, 2, i, 0, 1, api.ErrReceiver, r)
	count := 0
	for _, n := range m.own[:i] {
		if n.Kind == api.NMethodDecl {
			if q, _ := receiver(n); q.Text == r.Text {
				count++
				c.add(n.Text == d.Text, 2, i, 0, 2, api.ErrTwice, d)
			}
		}
	}
	if of >= 0 && m.own[of].Kind == api.NStruct {
		c.add(slices.ContainsFunc(m.own[of].Kids, func(f api.Node) bool { return f.Text == d.Text }), 2, i, 0, 2, api.ErrTwice, d)
	}
	c.add(count >= api.MaxMethods, 2, i, 0, 3, api.ErrMany, d)
}

// lead: of a struct's NEmbeds those of struct types alone count. A round adds what one more in between leads to.
func (m *model) lead() {
	for _, n := range m.whole {
		row := make([]bool, len(m.whole))
		for j, to := range m.whole {
			row[j] = n.Kind == to.Kind && slices.ContainsFunc(n.Kids, func(k api.Node) bool { return k.Kind == api.NEmbed && k.Text == to.Text })
		}
		m.leads = append(m.leads, row)
	}
	for k := range m.whole {
		for i := range m.whole {
			for j := range m.whole {
				m.leads[i][j] = m.leads[i][j] || m.leads[i][k] && m.leads[k][j]
			}
		}
	}
}

func (m *model) cycles(c *complaints) {
	for i, n := range m.whole {
		c.add(m.leads[i][i], 3, i, 0, 0, api.ErrCycle, n)
	}
}

func (m *model) sums(c *complaints) {
	for i, n := range m.whole {
		switch n.Kind {
		case api.NStruct:
			c.add(m.sizes()[n.Text] > api.MaxSize, 4, i, 0, 0, api.ErrType, n)
		case api.NProtocol:
			wants := m.wants(n.Text)
			for j, w := range wants {
				c.add(j > 0 && wants[j-1].Name == w.Name, 4, i, 0, j, api.ErrTwice, api.Node{At: n.At, Text: w.Name})
			}
			c.add(len(wants) > api.MaxMethods, 4, i, 0, len(wants), api.ErrMany, n)
		}
	}
}

// sizes come round by round: what is within others is ready ahead of them. Above a bound all are alike.
func (m *model) sizes() map[string]int {
	sizes := map[string]int{}
	for range m.whole {
		for _, n := range m.whole {
			if n.Kind != api.NStruct {
				continue
			}
			sum := 1
			for _, f := range n.Kids {
				if f.Kind == api.NEmbed && m.isStruct(f.Text) {
					sum += sizes[f.Text]
				} else {
					sum++
				}
			}
			sizes[n.Text] = min(sum, 1000)
		}
	}
	return sizes
}

// wants are the methods of a protocol, and of those that it leads to, rising, each name with each of its counts once.
func (m *model) wants(protocol string) []api.Method {
	if list, was := m.asked[protocol]; was {
		return list
	}
	from := slices.IndexFunc(m.whole, func(n api.Node) bool { return n.Text == protocol })
	var out []api.Method
	for i, n := range m.whole {
		if i == from || m.leads[from][i] {
			for _, k := range n.Kids {
				if k.Kind == api.NMethod {
					out = append(out, api.Method{Name: k.Text, Count: k.N})
				}
			}
		}
	}
	slices.SortFunc(out, func(a, b api.Method) int { return cmp.Or(cmp.Compare(a.Name, b.Name), cmp.Compare(a.Count, b.Count)) })
	m.asked[protocol] = slices.Compact(out)
	return m.asked[protocol]
}

// way is a way of embedded fields to a type or a protocol.
type way struct {
	to   string
	path []int
	star bool // through an embedded pointer
}

// ways are all ways from a type that come to nothing twice.
func (m *model) ways(from way, passed []string) []way {
	out := []way{from}
	passed = append(slices.Clone(passed), from.to)
	if n := m.one(from.to); n.Kind == api.NStruct {
		for i, f := range n.Kids {
			if f.Kind != api.NField && !slices.Contains(passed, f.Text) {
				out = append(out, m.ways(way{f.Text, append(slices.Clone(from.path), i), from.star || f.Kind == api.NEmbedPointer}, passed)...)
			}
		}
	}
	return out
}

// shortest are, of each type or protocol that there is a way to, the shortest ways, the first ones by their numbers first.
func (m *model) shortest(from string) map[string][]way {
	out := map[string][]way{}
	all := m.ways(way{to: from}, nil)
	slices.SortFunc(all, func(a, b way) int {
		return cmp.Or(cmp.Compare(len(a.path), len(b.path)), slices.Compare(a.path, b.path))
	})
	for _, w := range all {
		if was := out[w.to]; len(was) == 0 || len(was[0].path) == len(w.path) {
			out[w.to] = append(was, w)
		}
	}
	return out
}

// has is what a name is of a type or protocol itself.
func (m *model) has(of, what string) (api.Found, bool) {
	n := m.one(of)
	if n.Kind == api.NProtocol {
		for _, w := range m.wants(of) {
			if w.Name == what {
				return api.Found{Kind: api.FoundProtocol, Type: of, Count: w.Count}, true
			}
		}
		return api.Found{}, false
	}
	for i, f := range n.Kids {
		if n.Kind == api.NStruct && f.Text == what {
			return api.Found{Kind: api.FoundField, Path: []int{i}}, true
		}
	}
	for _, d := range slices.Concat(m.given, m.own) {
		if d.Kind == api.NMethodDecl && d.Text == what {
			if r, pointer := receiver(d); r.Text == of {
				return api.Found{Kind: api.FoundMethod, Type: of, Pointer: pointer, Count: len(d.Kids[1].Kids)}, true
			}
		}
	}
	return api.Found{}, false
}

func (m *model) find(shortest map[string][]way, pointer bool, what string) api.Found {
	var found []api.Found
	least := -1
	for to, list := range shortest {
		f, has := m.has(to, what)
		depth := len(list[0].path)
		if !has || least >= 0 && depth > least {
			continue
		}
		if depth < least || least < 0 {
			found, least = nil, depth
		}
		f.Path = append(slices.Clone(list[0].path), f.Path...)
		if f.Pointer && !pointer && !list[0].star {
			f = api.Found{}
		}
		for range list {
			found = append(found, f)
		}
	}
	switch len(found) {
	case 0:
		return api.Found{}
	case 1:
		return found[0]
	}
	return api.Found{Kind: api.FoundTwice}
}

func (m *model) zero(name string) string {
	var items []string
	for _, f := range m.one(name).Kids {
		switch {
		case f.Kind == api.NEmbed && m.isStruct(f.Text):
			items = append(items, m.zero(f.Text))
		case f.Kind == api.NEmbedPointer:
			items = append(items, "*"+f.Text)
		default:
			items = append(items, "nil")
		}
	}
	return name + "{" + strings.Join(items, " ") + "}"
}

// shape is written as shapeTold writes it.
func (m *model) shape(name string) string {
	n := m.one(name)
	switch {
	case slices.Contains(seven, name):
		return strconv.Itoa(api.KBool + slices.Index(seven, name))
	case n.Kind == api.NType:
		return m.shape(n.Kids[0].Text)
	case n.Kind != api.NStruct:
		return "0"
	}
	var fields []string
	for _, f := range n.Kids {
		how := map[int]int{api.NField: types.Plain, api.NEmbed: types.EmbedValue, api.NEmbedPointer: types.EmbedPointer}[f.Kind]
		if f.Kind == api.NEmbed && m.isProtocol(f.Text) {
			how = types.EmbedProtocol
		}
		fields = append(fields, f.Text+"/"+strconv.Itoa(how))
	}
	return "8 " + strings.Join(fields, " ") + " = " + m.zero(name)
}

func (m *model) names(protocols bool) string {
	var out []string
	for _, n := range m.whole {
		if (n.Kind == api.NProtocol) == protocols && n.Text != "any" {
			out = append(out, n.Text)
		}
	}
	slices.Sort(out)
	return strings.Join(out, " ")
}

// spoken are all names that stand in a program or are there from the beginning, and some that are none.
func (m *model) spoken() []string {
	out := append([]string{"", "nobody", "any", "error", "fault", "word", "more", "Error"}, seven...)
	for _, n := range m.own {
		out = append(out, n.Text)
		for _, k := range n.Kids {
			out = append(out, k.Text)
		}
	}
	slices.Sort(out)
	return slices.Compact(out)
}

// methodSet is what find tells of all names.
func (m *model) methodSet(t *testing.T, x *types.Table, of string, pointer bool) []api.Method {
	t.Helper()
	isType := slices.Contains(seven, of) || m.one(of).Kind == api.NType || m.isStruct(of)
	var out []api.Method
	shortest := m.shortest(of)
	for _, what := range m.spoken() {
		var want api.Found
		if isType && (!pointer || m.isStruct(of)) {
			want = m.find(shortest, pointer, what)
		}
		find(t, x, star(pointer, of), what, foundTold(t, want))
		if want.Kind == api.FoundMethod || want.Kind == api.FoundProtocol {
			out = append(out, api.Method{Name: what, Count: want.Count})
		}
	}
	return out
}

// held holds Make and all that a table answers against the model.
func held(t *testing.T, n api.Node) (fine bool) {
	t.Helper()
	m := modelOf(n)
	want := "fine"
	if w := m.wrong(); w != nil {
		want = wrongTold(w.Code, w.At, w.Name)
	}
	if got := made(t, n); got != want {
		t.Errorf("Y1: %s, must be %s", got, want)
	}
	if want != "fine" {
		return false
	}
	x, _ := types.Make(n)
	listed(t, x, m.names(false), m.names(true))
	for _, of := range m.spoken() {
		shape(t, x, of, m.shape(of))
		if m.isProtocol(of) {
			wants(t, x, of, methodsTold(m.wants(of)), true)
		} else {
			wants(t, x, of, "", false)
		}
		for _, pointer := range []bool{false, true} {
			m.heldSet(t, x, of, pointer)
		}
	}
	return true
}

func (m *model) heldSet(t *testing.T, x *types.Table, of string, pointer bool) {
	t.Helper()
	set := m.methodSet(t, x, of, pointer)
	methods(t, x, star(pointer, of), methodsTold(set))
	for _, protocol := range m.spoken() {
		if !m.isProtocol(protocol) {
			lacks(t, x, star(pointer, of), protocol, "", true)
			continue
		}
		missing := slices.DeleteFunc(slices.Clone(m.wants(protocol)), func(w api.Method) bool { return slices.Contains(set, w) })
		if len(missing) == 0 {
			lacks(t, x, star(pointer, of), protocol, "", false)
		} else {
			lacks(t, x, star(pointer, of), protocol, missing[0].Name, true)
		}
	}
}
