package tree

import "guise/api"

// shape is which Kids a node has.
type shape struct {
	kids    []role // one behind another; the last one goes for all that follow
	least   int
	most    int  // below 0: any number
	crowded bool // more than most of them are too many, not just wrong
}

func exactly(kids ...role) shape { return shape{kids: kids, least: len(kids), most: len(kids)} }

func atLeast(least int, kids ...role) shape { return shape{kids: kids, least: least, most: -1} }

func atMost(most int, kid role) shape {
	return shape{kids: []role{kid}, most: most, crowded: true}
}

// fault is what is wrong with a number of Kids.
func (s shape) fault(count int) api.Errno {
	switch {
	case count < s.least:
		return api.ErrKind
	case s.most < 0 || count <= s.most:
		return api.OK
	case s.crowded:
		return api.ErrMany
	}
	return api.ErrKind
}

// role is what the Kid at a place must be.
func (s shape) role(i int) role { return s.kids[min(i, len(s.kids)-1)] }

// shapeOf is the shape of a node that stands in a role.
func shapeOf(n api.Node, as role) shape {
	switch n.Kind {
	case api.NProgram, api.NType, api.NStruct, api.NProtocol, api.NFunc, api.NMethodDecl, api.NVar,
		api.NReceiver, api.NParams, api.NPointer:
		return declarationShape(n)
	case api.NBlock, api.NDefine, api.NDefineTwo, api.NAssign, api.NAssignTwo, api.NIf, api.NFor, api.NRange,
		api.NSwitch, api.NTypeSwitch, api.NCase, api.NReturn, api.NDefer, api.NDo, api.NStep:
		return statementShape(n, as)
	}
	return expressionShape(n, as)
}

func declarationShape(n api.Node) shape {
	switch n.Kind {
	case api.NProgram:
		return atLeast(0, declaration)
	case api.NType:
		return exactly(kindName)
	case api.NStruct:
		return atMost(api.MaxFields, structPart)
	case api.NProtocol:
		return atMost(api.MaxMethods, protocolPart)
	case api.NFunc:
		return exactly(params, block)
	case api.NMethodDecl:
		return exactly(receiver, params, block)
	case api.NVar:
		return exactly(expression)
	case api.NReceiver:
		return exactly(receiverType)
	case api.NParams:
		return atMost(api.MaxParams, name)
	case api.NPointer:
		return exactly(name)
	}
	return exactly()
}

func statementShape(n api.Node, as role) shape {
	switch n.Kind {
	case api.NBlock:
		return atLeast(0, statement)
	case api.NDefine:
		return exactly(expression)
	case api.NDefineTwo, api.NAssignTwo:
		return exactly(name, name, twofold)
	case api.NAssign:
		return exactly(place, expression)
	case api.NIf:
		return exactly(expression, block, otherwise)
	case api.NFor:
		return exactly(exprOrNone, block)
	case api.NRange:
		return exactly(nameOrNone, nameOrNone, expression, block)
	case api.NSwitch:
		return atLeast(1, exprOrNone, valueCase)
	case api.NTypeSwitch:
		return atLeast(2, nameOrNone, expression, typeCase)
	case api.NCase:
		if as == typeCase {
			return exactly(typesOrNone, block)
		}
		return exactly(valuesOrNone, block)
	case api.NReturn:
		return exactly(exprOrNone)
	case api.NDefer, api.NDo:
		return exactly(call)
	case api.NStep:
		return exactly(place)
	}
	return exactly()
}

func expressionShape(n api.Node, as role) shape {
	switch n.Kind {
	case api.NList:
		return listShape(as)
	case api.NMap:
		return atLeast(0, mapPair)
	case api.NMake:
		return atLeast(0, makePair)
	case api.NPair:
		if as == makePair {
			return exactly(expression)
		}
		return exactly(expression, expression)
	case api.NNew:
		return exactly(made)
	case api.NLiteral:
		return exactly(params, block)
	case api.NNilOf:
		return exactly(nilType)
	case api.NSelect, api.NUnary:
		return exactly(expression)
	case api.NIndex, api.NBinary:
		return exactly(expression, expression)
	case api.NSlice:
		return sliceShape(n)
	case api.NCall:
		return atLeast(1, callee, expression)
	case api.NAssert:
		return exactly(expression, typeName)
	}
	return exactly()
}

func listShape(as role) shape {
	switch as {
	case valuesOrNone:
		return atLeast(1, expression)
	case typesOrNone:
		return atLeast(1, typeOrNil)
	}
	return atLeast(0, expression)
}

// sliceShape has no room for a capacity where the bound ahead of it is left out.
func sliceShape(n api.Node) shape {
	last := exprOrNone
	if len(n.Kids) > 2 && n.Kids[2].Kind == api.NNone {
		last = none
	}
	return exactly(expression, exprOrNone, exprOrNone, last)
}
