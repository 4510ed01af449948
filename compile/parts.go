package compile

import (
	"guise/api"
	"guise/code"
	"guise/names"
)

// part is a node, with what is known of it beside what it says itself.
type part struct {
	api.Node
	kids   []*part
	use    names.Use // what its name stands for; Kind 0: for nothing
	slots  int       // of a function: how many variables it has
	number int       // of a function: its number in the code
}

// where is the place of the instructions that are laid down for it.
func (p *part) where() int { return p.At }

// isLeftOut: nothing stands where something might.
func (p *part) isLeftOut() bool { return p.Kind == api.NNone }

// isType: it is the name of a type, where an expression could stand.
func (p *part) isType() bool { return p.Kind == api.NName && p.use.Kind == names.TypeOf }

// isPointerType: it is `*T` there.
func (p *part) isPointerType() bool {
	return p.Kind == api.NUnary && p.Text == "*" && p.kids[0].isType()
}

// typed is an instruction that tells the type which is written there.
func (p *part) typed(op code.Op) code.Inst {
	if p.Kind == api.NPointer {
		return code.Inst{Op: op, A: 1, Text: p.kids[0].Text}
	}
	return code.Inst{Op: op, Text: p.Text}
}

// gatherer makes parts in the tree's order, in which names are bound, too: so what belongs to the node at hand is always the next one.
type gatherer struct {
	nodes    int // so far
	uses     []names.Use
	funcs    []names.Func
	declared int // the number of the next declared function
	literal  int // and of the next literal: they come behind all of these
}

// partsOf is a program's tree as parts.
func partsOf(n api.Node, bound names.Bound) *part {
	g := &gatherer{uses: bound.Uses, funcs: bound.Funcs, declared: 1, literal: 1}
	for _, d := range n.Kids {
		if d.Kind == api.NFunc || d.Kind == api.NMethodDecl {
			g.literal++
		}
	}
	return g.part(n)
}

func (g *gatherer) part(n api.Node) *part {
	p := &part{Node: n}
	if len(g.uses) > 0 && g.uses[0].Node == g.nodes {
		p.use, g.uses = g.uses[0], g.uses[1:]
	}
	if len(g.funcs) > 0 && g.funcs[0].Node == g.nodes {
		p.slots, g.funcs = g.funcs[0].Slots, g.funcs[1:]
		p.number = g.numberOf(n)
	}
	g.nodes++
	for _, kid := range n.Kids {
		p.kids = append(p.kids, g.part(kid))
	}
	return p
}

// numberOf is that of a function that is come to.
func (g *gatherer) numberOf(n api.Node) int {
	next := &g.declared
	if n.Kind == api.NLiteral {
		next = &g.literal
	}
	*next++
	return *next - 1
}
