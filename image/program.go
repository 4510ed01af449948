package image

import (
	"guise/api"
	"guise/code"
	"guise/compile"
	"guise/machine"
	"guise/parse"
	"guise/types"
)

// program is what a machine is loaded with.
type program struct {
	code  code.Program
	types *types.Table
}

// programOf is compile.Text, but the tree, which the types are made of too, is read once.
func programOf(source string) (program, error) {
	n, err := parse.Program(source)
	if err != nil {
		return program{}, err
	}
	c, err := compile.Program(n)
	if err != nil {
		return program{}, err
	}
	t, err := types.Make(n)
	if err != nil {
		return program{}, err
	}
	return program{c, t}, nil
}

// load makes the machine that bytes are with this program. Whatever is wrong with them is told by the one code by which it is known from what is wrong with a source.
func (p program) load(own string) (*machine.Machine, error) {
	m, err := machine.Load(own, p.code, p.types)
	if err != nil {
		return nil, noImage(0)
	}
	return m, nil
}

// revived is the machine that a source and bytes are.
func revived(source, own string) (*machine.Machine, error) {
	p, err := programOf(source)
	if err != nil {
		return nil, err
	}
	return p.load(own)
}

// savedBy is what a machine says of itself. One that no call gave out can say nothing: it is no machine of any program.
func savedBy(m *machine.Machine) (own string, err error) {
	defer func() {
		if recover() != nil {
			own, err = "", noImage(0)
		}
	}()
	return m.Save()
}

func noImage(at int) error { return &api.Wrong{Code: api.ErrImage, At: at} }
