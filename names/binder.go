package names

import (
	"strings"

	"guise/api"
	"guise/tree"
)

// binder goes over a program in the tree's order; so what it finds wrong first is what is told.
type binder struct {
	count  int     // nodes that were come to
	scopes []scope // from without to within
	frames []*frame
	inside []*frame // the functions around the node at hand
	uses   []Use
	wrong  *api.Wrong
}

// frame is a function: its variables, and what stands around the statement at hand in it.
type frame struct {
	node   int
	depth  int    // functions around it
	taken  []bool // of each variable, by its slot
	around []target
}

// target is a statement that a break may leave.
type target struct {
	label string
	loop  bool
}

// step counts a node, and tells its number.
func (b *binder) step() int {
	b.count++
	return b.count - 1
}

// skip passes over what is not asked here.
func (b *binder) skip(n api.Node) { b.count += tree.Count(n) }

func (b *binder) fail(code api.Errno, n api.Node, name string) {
	if b.wrong == nil {
		b.wrong = &api.Wrong{Code: code, At: n.At, Name: strings.Clone(name)}
	}
}

// open begins a scope; what it answers ends it, and takes its names back.
func (b *binder) open() (leave func()) {
	around := b.scopes
	b.scopes = append(b.scopes, scope{})
	return func() { b.scopes = around }
}

// enter begins a function, with a scope of its own; what it answers ends both.
func (b *binder) enter(node int) (leave func()) {
	around := b.inside
	f := &frame{node: node, depth: len(around)}
	b.frames = append(b.frames, f)
	b.inside = append(b.inside, f)
	leaveScope := b.open()
	return func() {
		leaveScope()
		b.inside = around
	}
}

// current is the function at hand; variables and statements stand in no other place.
func (b *binder) current() *frame { return b.inside[len(b.inside)-1] }

// find is what the innermost scope that has the name says, and lets it be seen.
func (b *binder) find(name string) (meaning, bool) {
	for i := len(b.scopes) - 1; i >= 0; i-- {
		if m, has := b.scopes[i][name]; has && !m.hidden {
			return m, true
		}
	}
	return meaning{}, false
}

// declare gives a variable of the function at hand its slot; its name is not seen until see is called.
func (b *binder) declare(n api.Node, name string) {
	s, f := b.scopes[len(b.scopes)-1], b.current()
	if _, has := s[name]; has {
		b.fail(api.ErrTwice, n, name)
	}
	m := meaning{class: variable, kind: Local, slot: len(f.taken), owner: f, hidden: true}
	f.taken = append(f.taken, false)
	s[name] = m
	b.uses = append(b.uses, Use{Node: b.step(), Kind: Local, Slot: m.slot})
}

// see lets names of the innermost scope be seen from here on.
func (b *binder) see(names ...string) {
	s := b.scopes[len(b.scopes)-1]
	for _, name := range names {
		m := s[name]
		m.hidden = false
		s[name] = m
	}
}

// use binds a node to what a name stands for, if that is one of what it may stand for there.
func (b *binder) use(n api.Node, name string, may class) meaning {
	node := b.step()
	m, known := b.find(name)
	switch {
	case !known:
		b.fail(api.ErrUnknown, n, name)
	case m.class&may == 0:
		b.fail(api.ErrUse, n, name)
	}
	b.uses = append(b.uses, Use{Node: node, Kind: m.kind, Slot: m.slot, Up: b.reach(m)})
	return m
}

// reach is how many functions lie between here and a variable; one that lies further out is taken along by the literals.
func (b *binder) reach(m meaning) int {
	if m.owner == nil {
		return 0
	}
	up := b.current().depth - m.owner.depth
	if up > 0 {
		m.owner.taken[m.slot] = true
	}
	return up
}

func (b *binder) bound() Bound {
	out := Bound{Uses: b.uses}
	for _, f := range b.frames {
		told := Func{Node: f.node, Slots: len(f.taken)}
		for slot, taken := range f.taken {
			if taken {
				told.Taken = append(told.Taken, slot)
			}
		}
		out.Funcs = append(out.Funcs, told)
	}
	return out
}
