package names

import "guise/api"

const mainName = "main"

func (b *binder) program(n api.Node) {
	b.step()
	var count numbering
	for _, kid := range n.Kids {
		m, declares := count.next(kid)
		if declares {
			b.once(kid, m)
			b.uses = append(b.uses, Use{Node: b.count, Kind: m.kind, Slot: m.slot})
		}
		b.declaration(kid)
	}
	b.main(n)
}

// once: the name is neither there from the beginning, as a type's, nor another declaration's ahead of this one.
func (b *binder) once(n api.Node, m meaning) {
	first := b.scopes[1][n.Text]
	if b.scopes[0][n.Text].class&anyType != 0 || first.kind != m.kind || first.slot != m.slot {
		b.fail(api.ErrTwice, n, n.Text)
	}
}

func (b *binder) declaration(n api.Node) {
	switch n.Kind {
	case api.NFunc, api.NMethodDecl:
		b.function(n)
	case api.NVar:
		b.rest(n)
	default:
		b.skip(n)
	}
}

// function goes over anything that has parameters: they, the receiver and the body's own variables are of one scope.
func (b *binder) function(n api.Node) {
	leave := b.enter(b.step())
	for _, kid := range n.Kids {
		switch kid.Kind {
		case api.NReceiver:
			b.declare(kid, kid.Text)
			b.see(kid.Text)
			b.skip(kid.Kids[0])
		case api.NParams:
			b.step()
			b.parameters(kid)
		case api.NBlock:
			b.statements(kid, false)
		}
	}
	leave()
}

func (b *binder) parameters(n api.Node) {
	for _, kid := range n.Kids {
		b.declare(kid, kid.Text)
		b.see(kid.Text)
	}
}

func (b *binder) main(n api.Node) {
	for _, kid := range n.Kids {
		if kid.Kind == api.NFunc && kid.Text == mainName {
			if len(kid.Kids[0].Kids) > 0 {
				b.fail(api.ErrMain, kid, mainName)
			}
			return
		}
	}
	b.fail(api.ErrMain, n, mainName)
}
