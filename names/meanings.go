package names

import "guise/api"

// class is what a name may be good for; where a name stands, a sum of classes says what it may stand for.
type class int

const (
	variable class = 1 << iota
	routine
	builtin
	plainKind // a kind type that has no nil
	nilKind   // a kind type that has one: list, map, func, or declared as one of these
	structType
	protocol

	kindType  = plainKind | nilKind
	ownType   = kindType | structType
	anyType   = ownType | protocol
	hasAValue = variable | routine
)

// meaning is what a name stands for in a scope.
type meaning struct {
	class  class
	kind   int // as a Use has it
	slot   int
	owner  *frame   // of a function's variable: that function
	fields []string // of a struct type
	hidden bool     // the scope has the name already, but it is not seen yet
}

// scope is what the names mean that a block, the program, or the language itself has.
type scope map[string]meaning

// The types and protocols, and the built-in calls, that are there from the beginning, as they are numbered.
var (
	firstTypes = [...]struct {
		name  string
		class class
	}{
		{"any", protocol}, {"bool", plainKind}, {"error", protocol}, {"fault", structType}, {"float", plainKind},
		{"func", nilKind}, {"int", plainKind}, {"list", nilKind}, {"map", nilKind}, {"text", plainKind},
	}
	firstCalls = [...]string{"append", "cap", "copy", "delete", "len", "make", "panic", "print", "recover", "show", "typeof"}
)

func fromTheBeginning() scope {
	s := scope{}
	for i, t := range firstTypes {
		s[t.name] = meaning{class: t.class, kind: TypeOf, slot: -1 - i}
	}
	fault := s["fault"]
	fault.fields = []string{"word", "more"}
	s["fault"] = fault
	for i, name := range firstCalls {
		s[name] = meaning{class: builtin, kind: Builtin, slot: i}
	}
	return s
}

// numbering counts a program's declarations, each kind of Use by itself.
type numbering struct{ variables, routines, types int }

// next is what a declaration makes its name mean; false: it declares no name of the program.
func (c *numbering) next(n api.Node) (meaning, bool) {
	m := meaning{class: classOf(n)}
	switch n.Kind {
	case api.NVar:
		m.kind, m.slot = Global, c.variables
		c.variables++
	case api.NFunc:
		m.kind, m.slot = Routine, c.routines
		c.routines++
	case api.NType, api.NStruct, api.NProtocol:
		m.kind, m.slot = TypeOf, c.types
		m.fields = fieldsOf(n)
		c.types++
	default:
		return meaning{}, false
	}
	return m, true
}

func classOf(n api.Node) class {
	switch n.Kind {
	case api.NVar:
		return variable
	case api.NFunc:
		return routine
	case api.NStruct:
		return structType
	case api.NProtocol:
		return protocol
	case api.NType:
		return classOfKind(n.Kids[0].Text)
	}
	return 0
}

// classOfKind goes by the kind's name as it is written: whether that may be written there is asked by the types.
func classOfKind(kind string) class {
	switch kind {
	case "list", "map", "func":
		return nilKind
	}
	return plainKind
}

func fieldsOf(n api.Node) []string {
	var fields []string
	if n.Kind == api.NStruct {
		for _, kid := range n.Kids {
			fields = append(fields, kid.Text)
		}
	}
	return fields
}

// declaredBy is the program's scope: of several declarations of a name the first is meant.
func declaredBy(program api.Node) scope {
	s := scope{}
	var count numbering
	for _, kid := range program.Kids {
		m, declares := count.next(kid)
		if _, there := s[kid.Text]; declares && !there {
			s[kid.Text] = m
		}
	}
	return s
}
