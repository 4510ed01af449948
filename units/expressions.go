package units

import "guise/api"

func (j *joiner) expression(n *api.Node) {
	switch n.Kind {
	case api.NName:
		if !j.isVariable(n.Text) {
			n.Text = j.own(n.Text)
		}
	case api.NLiteral:
		j.function(n)
	case api.NSelect:
		j.selected(n)
	case api.NMake:
		n.Text = j.own(n.Text)
		j.kids(n)
	case api.NPair:
		n.Text = j.part(n.Text)
		j.kids(n)
	case api.NAssert:
		j.visit(&n.Kids[0])
		j.typed(&n.Kids[1])
	case api.NNilOf:
		j.typed(&n.Kids[0])
	default:
		j.kids(n)
	}
}

// typed is a type where it is asked for: no variable hides it.
func (j *joiner) typed(n *api.Node) {
	if n.Kind == api.NPointer {
		n = &n.Kids[0]
	}
	n.Text = j.own(n.Text)
}

// selected: what a unit is asked for is that unit's own name; else it is a field or a method.
func (j *joiner) selected(n *api.Node) {
	if u := j.spokenOf(n.Kids[0]); u != nil {
		if !u.declared.has(n.Text) {
			j.fail(api.ErrUnknown, n)
		}
		*n = api.Node{Kind: api.NName, Text: u.joined(n.Text), At: n.At}
		return
	}
	n.Text = j.part(n.Text)
	j.kids(n)
}

// spokenOf is the unit that an expression is the name of; nil: of none.
func (j *joiner) spokenOf(n api.Node) *unit {
	number, imported := j.imports[n.Text]
	if n.Kind != api.NName || !imported || j.isVariable(n.Text) {
		return nil
	}
	return j.units[number]
}
