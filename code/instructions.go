package code

import "guise/api"

// rightInstruction asks all that can be asked of an instruction without the stack.
func rightInstruction(p Program, number, i int) bool {
	f := p.Funcs[number]
	in := f.Code[i]
	least, greatest := rangeOfA(p, f, in.Op)
	switch {
	case in.Op < OpStep || in.Op > OpDrop, in.At < 0 || in.At > api.MaxSource:
		return false
	case in.A < least || in.A > greatest, !rightB(in), !rightText(in):
		return false
	case in.Op == OpLiteral && !isDeclared(p, in.A) && p.Funcs[in.A].Around != number:
		return false
	case goesTo(in.Op) && in.A <= i && !isCounted(f.Code[in.A].Op):
		return false
	}
	return i < len(f.Code)-1 || in.Op == OpReturn || in.Op == OpJump
}

// goesTo: whether A is an instruction that may come next.
func goesTo(op Op) bool {
	switch op {
	case OpJump, OpBranch, OpAnd, OpOr, OpNext:
		return true
	}
	return false
}

// goesOn: whether the instruction behind may come next.
func goesOn(op Op) bool { return op != OpJump && op != OpReturn }

// isCounted: whether a run counts a step there, so that it may be gone back to.
func isCounted(op Op) bool { return op == OpStep || op == OpTick }

// rangeOfA is the least and the greatest A that an operation may have in a function; if there is none, the least is the greater one.
func rangeOfA(p Program, f Func, op Op) (int, int) {
	switch op {
	case OpBool, OpNilOf, OpSelect, OpExpression, OpAssert:
		return 0, 1
	case OpHolds:
		return 0, 2
	case OpLoad, OpPlaceSlot, OpFresh, OpStore:
		return 0, f.Slots - 1
	case OpGlobal, OpPlaceGlobal, OpStoreGlobal:
		return 0, len(p.Globals) - 1
	case OpTaken, OpPlaceTaken, OpStoreTaken:
		return 0, len(f.Taken) - 1
	case OpConvert:
		return api.KBool, api.KFunc
	case OpSlice:
		return 2, 3
	case OpList, OpMap, OpCall, OpBuilt, OpDefer, OpDeferBuilt, OpDrop:
		return 0, api.MaxNodes
	case OpStruct:
		return 0, api.MaxFields
	case OpLiteral:
		return 0, len(p.Funcs) - 1
	case OpJump, OpBranch, OpAnd, OpOr, OpNext:
		return 0, len(f.Code) - 1
	}
	return 0, 0
}

// What an OpSlice leaves out, a bit each.
const (
	leavesFrom = 1
	leavesTo   = 2
)

// rightB: of three bounds only the first one may be left out.
func rightB(in Inst) bool {
	switch {
	case in.Op != OpSlice:
		return in.B == 0
	case in.A == 3:
		return in.B&^leavesFrom == 0
	}
	return in.B&^(leavesFrom|leavesTo) == 0
}
