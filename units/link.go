package units

import (
	"strings"

	"guise/api"
	"guise/lex"
)

// between stands between a unit's name and a name of that unit.
const between = "__"

// unit is one whose head was read; what it declares is known once its body was.
type unit struct {
	name     string
	first    bool
	body     string
	imports  map[string]int // the units' numbers, by their names
	declared names
	embedded names
}

// names is those that there are.
type names map[string]struct{}

func (n names) has(name string) bool {
	_, has := n[name]
	return has
}

func (n names) add(name string) { n[name] = struct{}{} }

// link reads the heads, and finds the units that are imported.
func link(l []Unit) ([]*unit, error) {
	if len(l) > api.MaxUnits {
		return nil, &api.Wrong{Code: api.ErrMany}
	}
	numbers := map[string]int{}
	for i, one := range l {
		_, there := numbers[one.Name]
		switch {
		case there, !isUnitName(one.Name):
			return nil, bare(api.ErrUnit, one.Name)
		case len(one.Source) > api.MaxSource:
			return nil, bare(api.ErrLong, one.Name)
		}
		numbers[one.Name] = i
	}
	var out []*unit
	for i, one := range l {
		h := headOf(one.Source)
		u := &unit{name: one.Name, first: i == 0, body: h.body(one.Source), imports: map[string]int{}}
		if err := u.findImports(h, numbers); err != nil {
			return nil, err
		}
		out = append(out, u)
	}
	return out, nil
}

func (u *unit) findImports(h head, numbers map[string]int) error {
	for _, w := range h.imported {
		number, there := numbers[w.text]
		_, again := u.imports[w.text]
		switch {
		case !isUnitName(w.text):
			return u.wrong(api.ErrUnit, w.at, w.text)
		case again:
			return u.wrong(api.ErrTwice, w.at, w.text)
		case !there, w.text == u.name:
			return u.wrong(api.ErrImport, w.at, w.text)
		}
		u.imports[w.text] = number
	}
	return nil
}

func isUnitName(s string) bool {
	return lex.Name(s) && s != "_" && !strings.Contains(s, between)
}

// wrong tells of a name in the unit, bare of the unit alone.
func (u *unit) wrong(code api.Errno, at int, name string) error {
	return &api.Wrong{Code: code, At: at, Name: u.name + "." + name}
}

func bare(code api.Errno, unit string) error {
	return &api.Wrong{Code: code, Name: strings.Clone(unit)}
}
