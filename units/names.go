package units

import "guise/api"

// declare takes down which names a unit's body declares, and which of these its structs embed.
func (u *unit) declare(program api.Node) {
	u.declared, u.embedded = names{}, names{}
	for _, n := range program.Kids {
		if n.Kind != api.NMethodDecl {
			u.declared.add(n.Text)
		}
	}
	for _, n := range program.Kids {
		if n.Kind == api.NStruct {
			u.embed(n.Kids)
		}
	}
}

func (u *unit) embed(parts []api.Node) {
	for _, part := range parts {
		if part.Kind != api.NField && u.declared.has(part.Text) {
			u.embedded.add(part.Text)
		}
	}
}

// joined is what a name of the unit is called in the whole program.
func (u *unit) joined(name string) string {
	if u.first {
		return name
	}
	return u.name + between + name
}

// own is what a name is called that may be one of the unit; part what one is called that may be an embedded one.
func (u *unit) own(name string) string {
	if u.declared.has(name) {
		return u.joined(name)
	}
	return name
}

func (u *unit) part(name string) string {
	if u.embedded.has(name) {
		return u.joined(name)
	}
	return name
}
