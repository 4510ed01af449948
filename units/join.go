package units

import (
	"errors"
	"strings"

	"guise/api"
	"guise/parse"
)

// joiner goes over a unit's tree in the tree's order, and gives what it comes to its name in the whole program; so what it finds wrong first is what is told.
type joiner struct {
	*unit
	scopes
	units []*unit
	err   error
}

// declarationsOf reads a unit's body; all units that it imports have been read.
func declarationsOf(number int, l []*unit) ([]api.Node, error) {
	u := l[number]
	program, err := parse.Program(u.body)
	var refused *api.Wrong
	if errors.As(err, &refused) {
		return nil, u.wrong(refused.Code, refused.At, refused.Name)
	}
	u.declare(program)
	j := &joiner{unit: u, scopes: scopes{seen: map[string]int{}}, units: l}
	j.kids(&program)
	return program.Kids, j.err
}

func (j *joiner) fail(code api.Errno, n *api.Node) {
	if j.err == nil {
		j.err = j.wrong(code, n.At, n.Text)
	}
}

func (j *joiner) kids(n *api.Node) {
	for i := range n.Kids {
		j.visit(&n.Kids[i])
	}
}

func (j *joiner) visit(n *api.Node) {
	switch n.Kind {
	case api.NType, api.NStruct, api.NProtocol, api.NFunc, api.NVar:
		j.declaration(n)
	case api.NMethodDecl:
		j.plain(n)
		j.function(n)
	case api.NField, api.NMethod:
		j.plain(n)
	case api.NEmbed, api.NEmbedPointer:
		n.Text = j.own(n.Text)
	case api.NBlock:
		j.block(n)
	case api.NDefine:
		j.kids(n)
		j.see(n.Text)
	case api.NDefineTwo:
		j.visit(&n.Kids[2])
		j.seeAll(n.Kids[:2])
	case api.NRange:
		j.ranged(n)
	case api.NTypeSwitch:
		j.typeSwitched(n)
	default:
		j.expression(n)
	}
}

// declaration gives the unit's own names; what a type's kind is called is no unit's.
func (j *joiner) declaration(n *api.Node) {
	j.checkDeclared(n)
	n.Text = j.joined(n.Text)
	switch n.Kind {
	case api.NFunc:
		j.function(n)
	case api.NStruct, api.NProtocol, api.NVar:
		j.kids(n)
	}
}

func (j *joiner) checkDeclared(n *api.Node) {
	_, imported := j.imports[n.Text]
	switch {
	case strings.Contains(n.Text, between):
		j.fail(api.ErrUnit, n)
	case imported:
		j.fail(api.ErrTwice, n)
	case len(j.joined(n.Text)) > api.MaxName:
		j.fail(api.ErrLong, n)
	}
}

// plain: the name of a field or a method stays, so it can't be one that embedded fields lose.
func (j *joiner) plain(n *api.Node) {
	if !j.first && j.embedded.has(n.Text) {
		j.fail(api.ErrUnit, n)
	}
}

// function goes over anything that has parameters.
func (j *joiner) function(n *api.Node) {
	defer j.open()()
	for i := range n.Kids {
		kid := &n.Kids[i]
		switch kid.Kind {
		case api.NReceiver:
			j.see(kid.Text)
			j.typed(&kid.Kids[0])
		case api.NParams:
			j.seeAll(kid.Kids)
		default:
			j.visit(kid)
		}
	}
}

func (j *joiner) block(n *api.Node) {
	defer j.open()()
	j.kids(n)
}

func (j *joiner) ranged(n *api.Node) {
	j.visit(&n.Kids[2])
	defer j.open()()
	j.seeAll(n.Kids[:2])
	j.visit(&n.Kids[3])
}

func (j *joiner) typeSwitched(n *api.Node) {
	j.visit(&n.Kids[1])
	for i := range n.Kids[2:] {
		j.typeCase(&n.Kids[2+i], n.Kids[:1])
	}
}

func (j *joiner) typeCase(n *api.Node, named []api.Node) {
	for i := range n.Kids[0].Kids {
		j.typed(&n.Kids[0].Kids[i])
	}
	defer j.open()()
	j.seeAll(named)
	j.visit(&n.Kids[1])
}

// seeAll: a name that is left out is empty, and no name is.
func (j *joiner) seeAll(l []api.Node) {
	for _, n := range l {
		j.see(n.Text)
	}
}
