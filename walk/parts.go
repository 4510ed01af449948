package walk

import (
	"guise/api"
	"guise/names"
)

// part is a node, with what its name stands for.
type part struct {
	api.Node
	use   names.Use // Kind 0: for nothing
	slots int       // of a function: how many variables it has
	kids  []*part
}

// partsOf is a program's tree as parts.
func partsOf(n api.Node, bound names.Bound) *part {
	uses := map[int]names.Use{}
	for _, u := range bound.Uses {
		uses[u.Node] = u
	}
	slots := map[int]int{}
	for _, f := range bound.Funcs {
		slots[f.Node] = f.Slots
	}
	number := -1
	var partOf func(n api.Node) *part
	partOf = func(n api.Node) *part {
		number++ // a node's number is its place in the tree's order
		p := &part{Node: n, use: uses[number], slots: slots[number]}
		for _, kid := range n.Kids {
			p.kids = append(p.kids, partOf(kid))
		}
		return p
	}
	return partOf(n)
}

// isType: it is the name of a type where an expression could stand.
func (p *part) isType() bool { return p.Kind == api.NName && p.use.Kind == names.TypeOf }

// isPointerType: it is `*T` there.
func (p *part) isPointerType() bool {
	return p.Kind == api.NUnary && p.Text == "*" && p.kids[0].isType()
}

// wanted is a type that is written where a type must stand.
func (p *part) wanted() (name string, star bool) {
	if p.Kind == api.NPointer {
		return p.kids[0].Text, true
	}
	return p.Text, false
}
