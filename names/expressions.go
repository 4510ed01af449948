package names

import (
	"slices"

	"guise/api"
)

func (b *binder) expression(n api.Node) {
	switch n.Kind {
	case api.NName:
		b.name(n, hasAValue)
	case api.NLiteral:
		b.function(n)
	case api.NCall:
		b.call(n, false)
	case api.NSelect:
		b.selected(n)
	case api.NMake:
		b.made(n)
	case api.NAssert:
		b.step()
		b.visit(n.Kids[0])
		b.held(n.Kids[1], anyType)
	case api.NNilOf:
		b.step()
		b.held(n.Kids[0], nilKind)
	default:
		b.rest(n)
	}
}

// name binds an NName; three words stand for themselves, wherever they may stand.
func (b *binder) name(n api.Node, may class) {
	switch n.Text {
	case "true", "false", "nil":
		b.step()
	default:
		b.use(n, n.Text, may)
	}
}

// part goes over an expression that, if it is a name, may stand for something else than expressions do.
func (b *binder) part(n api.Node, may class) {
	if n.Kind == api.NName {
		b.name(n, may)
	} else {
		b.visit(n)
	}
}

// call: alone, as a statement, it is no conversion.
func (b *binder) call(n api.Node, alone bool) {
	b.step()
	may := hasAValue | builtin
	if !alone && len(n.Kids) == 2 {
		may |= kindType
	}
	b.part(n.Kids[0], may)
	for _, kid := range n.Kids[1:] {
		b.visit(kid)
	}
}

// selected: a method may be selected of a type, too, and of a pointer to a struct type.
func (b *binder) selected(n api.Node) {
	b.step()
	of := n.Kids[0]
	if of.Kind == api.NUnary && of.Text == "*" {
		b.step()
		b.part(of.Kids[0], hasAValue|structType)
		return
	}
	b.part(of, hasAValue|ownType)
}

// held goes over a type that is asked for; one that stands in a pointer must be a struct type.
func (b *binder) held(n api.Node, may class) {
	if n.Kind == api.NPointer {
		b.step()
		n, may = n.Kids[0], structType
	}
	b.name(n, may)
}

func (b *binder) made(n api.Node) {
	fields := b.use(n, n.Text, structType).fields
	for i, pair := range n.Kids {
		if b.wrong != nil {
			return
		}
		b.field(pair, fields, n.Kids[:i])
		b.rest(pair)
	}
}

// field: the pair names a field of the struct type itself that no pair ahead of it names.
func (b *binder) field(pair api.Node, fields []string, ahead []api.Node) {
	if slices.ContainsFunc(ahead, func(other api.Node) bool { return other.Text == pair.Text }) {
		b.fail(api.ErrTwice, pair, pair.Text)
	}
	if !slices.Contains(fields, pair.Text) {
		b.fail(api.ErrUnknown, pair, pair.Text)
	}
}
