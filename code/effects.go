package code

import "math/bits"

// effect is what an instruction does to the stack: it takes so many things of one kind off the top, then those that takes says, the
// top one last; and lays others there, which hang on what comes next: on, or what A names.
type effect struct {
	takes     string
	count     int
	of        byte
	on, there string
}

func effectOf(in Inst) effect {
	switch in.Op {
	case OpInt, OpFloat, OpText, OpBool, OpNil, OpNilOf, OpLoad, OpGlobal, OpTaken, OpExpression, OpLiteral:
		return effect{on: "v"}
	case OpPlaceSlot, OpPlaceGlobal, OpPlaceTaken:
		return effect{on: "p"}
	case OpFresh, OpStore, OpStoreGlobal, OpStoreTaken, OpPop, OpBranch, OpReturn:
		return effect{takes: "v"}
	case OpUnary, OpTruth, OpConvert, OpSelect, OpObject, OpAssert:
		return effect{takes: "v", on: "v"}
	case OpDup, OpHolds:
		return effect{takes: "v", on: "vv"}
	case OpBinary, OpIndex:
		return effect{takes: "vv", on: "v"}
	case OpIndexTwo:
		return effect{takes: "vv", on: "vv"}
	case OpAnd, OpOr:
		return effect{takes: "v", there: "v"}
	case OpPlaceOf:
		return effect{takes: "v", on: "p"}
	case OpPlaceIndex:
		return effect{takes: "vv", on: "p"}
	case OpPlaceField:
		return effect{takes: "e", on: "p"}
	case OpFetch:
		return effect{takes: "p", on: "pv"}
	case OpPut:
		return effect{takes: "pv"}
	case OpTurn:
		return effect{takes: "v", on: "t"}
	case OpNext:
		return effect{takes: "t", on: "tvv"}
	}
	return countedEffect(in)
}

// countedEffect is that of an instruction whose A says how many things it takes; of the others none.
func countedEffect(in Inst) effect {
	switch in.Op {
	case OpSlice:
		return effect{takes: "v", count: in.A - bits.OnesCount(uint(in.B)), of: value, on: "v"}
	case OpList, OpStruct, OpBuilt:
		return effect{count: in.A, of: value, on: "v"}
	case OpMap:
		return effect{count: 2 * in.A, of: value, on: "v"}
	case OpCall:
		return effect{takes: "v", count: in.A, of: value, on: "v"}
	case OpDefer:
		return effect{takes: "v", count: in.A, of: value}
	case OpDeferBuilt:
		return effect{count: in.A, of: value}
	case OpDrop:
		return effect{count: in.A, of: turn}
	}
	return effect{}
}
