package tree

import "guise/api"

// role is what a node must be where it stands.
type role int

const (
	own          role = iota // a tree's own node: it is not asked what it stands in
	nothing                  // no node may stand there
	declaration              // of a program
	structPart               // of an NStruct
	protocolPart             // of an NProtocol
	kindName                 // what a type is declared as
	receiver                 // of a method
	receiverType             // a name, or a pointer to one
	params                   // of a function
	name                     // a name, no word
	nameOrNone               // of a loop, of a switch over types
	block                    // of a function, a loop ..
	statement                // of a block
	otherwise                // what stands behind else
	place                    // what can be assigned to
	twofold                  // what answers two values
	call                     // what is done or deferred
	callee                   // what is called
	expression               // what has a value
	exprOrNone               // one that may be left out
	none                     // one that must be left out
	valueCase                // of an NSwitch
	typeCase                 // of an NTypeSwitch
	valuesOrNone             // what a valueCase begins with
	typesOrNone              // what a typeCase begins with
	typeName                 // a type
	typeOrNil                // of a typeCase's list
	nilType                  // a type that nil may be of
	mapPair                  // of an NMap
	makePair                 // of an NMake
	made                     // of an NNew
)

// Sets of kinds, a bit for each kind.
const (
	everyKind = 1<<(api.NBinary+1) - 1<<api.NProgram

	declarations = 1<<api.NType | 1<<api.NStruct | 1<<api.NProtocol | 1<<api.NFunc | 1<<api.NMethodDecl | 1<<api.NVar

	statements = 1<<api.NBlock | 1<<api.NDefine | 1<<api.NDefineTwo | 1<<api.NAssign | 1<<api.NAssignTwo |
		1<<api.NIf | 1<<api.NFor | 1<<api.NRange | 1<<api.NSwitch | 1<<api.NTypeSwitch | 1<<api.NReturn |
		1<<api.NDefer | 1<<api.NDo | 1<<api.NBreak | 1<<api.NContinue | 1<<api.NFall | 1<<api.NStep

	expressions = 1<<api.NName | 1<<api.NInt | 1<<api.NFloat | 1<<api.NText | 1<<api.NList | 1<<api.NMap |
		1<<api.NMake | 1<<api.NNew | 1<<api.NLiteral | 1<<api.NNilOf | 1<<api.NSelect | 1<<api.NIndex |
		1<<api.NSlice | 1<<api.NCall | 1<<api.NAssert | 1<<api.NUnary | 1<<api.NBinary
)

// takes tells whether a kind is one that may have the role.
func (r role) takes(kind int) bool {
	return kind >= api.NProgram && kind <= api.NBinary && r.kinds()>>kind&1 == 1
}

// kinds are those that may have the role, a bit for each.
func (r role) kinds() uint64 {
	switch r {
	case own:
		return everyKind
	case declaration:
		return declarations
	case structPart:
		return 1<<api.NField | 1<<api.NEmbed | 1<<api.NEmbedPointer
	case protocolPart:
		return 1<<api.NMethod | 1<<api.NEmbed
	case kindName, name:
		return 1 << api.NName
	case receiverType, typeName, typeOrNil, nilType:
		return 1<<api.NName | 1<<api.NPointer
	case nameOrNone:
		return 1<<api.NName | 1<<api.NNone
	case receiver:
		return 1 << api.NReceiver
	case params:
		return 1 << api.NParams
	case block:
		return 1 << api.NBlock
	case statement:
		return statements
	case otherwise:
		return 1<<api.NBlock | 1<<api.NIf | 1<<api.NNone
	case place:
		return 1<<api.NName | 1<<api.NSelect | 1<<api.NIndex | 1<<api.NUnary
	case twofold:
		return 1<<api.NAssert | 1<<api.NIndex
	case call:
		return 1 << api.NCall
	case callee, expression:
		return expressions
	case exprOrNone:
		return expressions | 1<<api.NNone
	case none:
		return 1 << api.NNone
	case valueCase, typeCase:
		return 1 << api.NCase
	case valuesOrNone, typesOrNone:
		return 1<<api.NList | 1<<api.NNone
	case mapPair, makePair:
		return 1 << api.NPair
	case made:
		return 1 << api.NMake
	}
	return 0
}

// words are those that an NName may be in the role, beside a name.
func (r role) words() []string {
	switch r {
	case own:
		return []string{"true", "false", "nil", "map", "any", "func"}
	case expression, exprOrNone:
		return []string{"true", "false", "nil"}
	case callee:
		return []string{"true", "false", "nil", "map"}
	case kindName, nilType:
		return []string{"map", "func"}
	case typeName:
		return []string{"map", "func", "any"}
	case typeOrNil:
		return []string{"map", "func", "any", "nil"}
	}
	return nil
}

// ownRole is the role of a tree's own node: what it stands in is told by what it is, where that matters.
func ownRole(n api.Node) role {
	switch {
	case n.Kind == api.NPair && n.Text == "":
		return mapPair
	case n.Kind == api.NPair:
		return makePair
	case n.Kind == api.NCase && listsTypes(n):
		return typeCase
	case n.Kind == api.NCase:
		return valueCase
	}
	return own
}

// listsTypes tells whether a case's list has something that can be nothing but a type.
func listsTypes(n api.Node) bool {
	if len(n.Kids) == 0 {
		return false
	}
	for _, kid := range n.Kids[0].Kids {
		switch {
		case kid.Kind == api.NPointer:
			return true
		case kid.Kind == api.NName && (kid.Text == "map" || kid.Text == "func" || kid.Text == "any"):
			return true
		}
	}
	return false
}
