package names

import (
	"slices"

	"guise/api"
)

// visit goes over a statement or an expression.
func (b *binder) visit(n api.Node) {
	switch n.Kind {
	case api.NBlock:
		b.block(n)
	case api.NDefine:
		b.define(n)
	case api.NDefineTwo:
		b.defineTwo(n)
	case api.NAssign, api.NStep:
		b.assign(n, 1)
	case api.NAssignTwo:
		b.assign(n, 2)
	case api.NFor:
		b.loop(n)
	case api.NRange:
		b.ranged(n)
	case api.NSwitch:
		b.switched(n)
	case api.NTypeSwitch:
		b.typeSwitched(n)
	case api.NBreak:
		b.jump(n, false)
	case api.NContinue:
		b.jump(n, true)
	case api.NDefer, api.NDo:
		b.step()
		b.call(n.Kids[0], true)
	default:
		b.expression(n)
	}
}

// rest goes over a node that asks nothing of its own.
func (b *binder) rest(n api.Node) {
	b.step()
	for _, kid := range n.Kids {
		b.visit(kid)
	}
}

// block: one that is a scope by itself.
func (b *binder) block(n api.Node) {
	leave := b.open()
	b.statements(n, false)
	leave()
}

// statements goes over a block within the scope at hand; mayFall: its last statement may be a fallthrough.
func (b *binder) statements(n api.Node, mayFall bool) {
	b.step()
	for i, kid := range n.Kids {
		if kid.Kind == api.NFall && !(mayFall && i == len(n.Kids)-1) {
			b.fail(api.ErrLabel, kid, "")
		}
		b.visit(kid)
	}
}

func (b *binder) define(n api.Node) {
	b.declare(n, n.Text)
	b.visit(n.Kids[0])
	b.see(n.Text)
}

func (b *binder) defineTwo(n api.Node) {
	b.step()
	one, two := n.Kids[0], n.Kids[1]
	b.declare(one, one.Text)
	b.declare(two, two.Text)
	b.visit(n.Kids[2])
	b.see(one.Text, two.Text)
}

// assign: as many of the first Kids as it says are places.
func (b *binder) assign(n api.Node, places int) {
	b.step()
	for i, kid := range n.Kids {
		if i < places {
			b.part(kid, variable)
		} else {
			b.visit(kid)
		}
	}
}

// within begins what stands in a loop or a switch; what it answers ends it.
func (b *binder) within(n api.Node) (leave func()) {
	f := b.current()
	outer := f.around
	if n.Text != "" && slices.ContainsFunc(outer, func(t target) bool { return t.label == n.Text }) {
		b.fail(api.ErrLabel, n, n.Text)
	}
	f.around = append(f.around, target{n.Text, n.Kind == api.NFor || n.Kind == api.NRange})
	return func() { f.around = outer }
}

// jump: a break, or a continue, which only loops take.
func (b *binder) jump(n api.Node, loops bool) {
	b.step()
	fits := func(t target) bool { return (t.loop || !loops) && (n.Text == "" || n.Text == t.label) }
	if !slices.ContainsFunc(b.current().around, fits) {
		b.fail(api.ErrLabel, n, n.Text)
	}
}

func (b *binder) loop(n api.Node) {
	leave := b.within(n)
	b.rest(n)
	leave()
}

func (b *binder) ranged(n api.Node) {
	leave, leaveScope := b.within(n), b.open()
	b.step()
	var names []string
	for _, item := range n.Kids[:2] {
		if item.Kind == api.NNone {
			b.step()
			continue
		}
		b.declare(item, item.Text)
		names = append(names, item.Text)
	}
	b.visit(n.Kids[2])
	b.see(names...)
	b.block(n.Kids[3])
	leaveScope()
	leave()
}

func (b *binder) switched(n api.Node) {
	leave := b.within(n)
	b.step()
	b.visit(n.Kids[0])
	for i, kid := range n.Kids[1:] {
		b.step()
		b.rest(kid.Kids[0])
		leaveScope := b.open()
		b.statements(kid.Kids[1], i < len(n.Kids)-2)
		leaveScope()
	}
	leave()
}

func (b *binder) typeSwitched(n api.Node) {
	leave := b.within(n)
	b.step()
	b.skip(n.Kids[0])
	b.visit(n.Kids[1])
	for _, kid := range n.Kids[2:] {
		b.typeCase(kid, n.Kids[0].Text)
	}
	leave()
}

// typeCase: the name, if there is one, is a variable of the case's block, so it is not seen among the case's types.
func (b *binder) typeCase(n api.Node, name string) {
	leave := b.open()
	if name == "" {
		b.step()
	} else {
		b.declare(n, name)
	}
	b.step()
	for _, kid := range n.Kids[0].Kids {
		b.held(kid, anyType)
	}
	if name != "" {
		b.see(name)
	}
	b.statements(n.Kids[1], false)
	leave()
}
