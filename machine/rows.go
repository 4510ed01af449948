package machine

import "guise/code"

// doing is what an instruction does.
type doing func(m *Machine, c *call, in *inst)

// row is an operation: what it does; and what it takes off the stack and lays there, the top one last: v a value, p a place, t a turn, e a value or a place; there: what it lays, if it goes where A says; count: how many like things it takes that lie above these.
type row struct {
	do        doing
	takes, on string
	there     string
	count     func(in code.Inst) int
}

// rows are those of all operations, by their numbers.
func rows() []row {
	return []row{
		code.OpStep:        {do: (*Machine).begin},
		code.OpTick:        {do: (*Machine).tick},
		code.OpInt:         {do: (*Machine).lay, on: "v"},
		code.OpFloat:       {do: (*Machine).lay, on: "v"},
		code.OpText:        {do: (*Machine).lay, on: "v"},
		code.OpBool:        {do: (*Machine).lay, on: "v"},
		code.OpNil:         {do: (*Machine).lay, on: "v"},
		code.OpNilOf:       {do: (*Machine).lay, on: "v"},
		code.OpLoad:        {do: (*Machine).load, on: "v"},
		code.OpGlobal:      {do: (*Machine).loadGlobal, on: "v"},
		code.OpTaken:       {do: (*Machine).loadTaken, on: "v"},
		code.OpFresh:       {do: (*Machine).fresh, takes: "v"},
		code.OpStore:       {do: (*Machine).store, takes: "v"},
		code.OpStoreGlobal: {do: (*Machine).storeGlobal, takes: "v"},
		code.OpStoreTaken:  {do: (*Machine).storeTaken, takes: "v"},
		code.OpPop:         {do: (*Machine).pop, takes: "v"},
		code.OpDup:         {do: (*Machine).dup, takes: "v", on: "vv"},
		code.OpUnary:       {do: (*Machine).unary, takes: "v", on: "v"},
		code.OpBinary:      {do: (*Machine).binary, takes: "vv", on: "v"},
		code.OpTruth:       {do: (*Machine).truth, takes: "v", on: "v"},
		code.OpConvert:     {do: (*Machine).convert, takes: "v", on: "v"},
		code.OpSelect:      {do: (*Machine).selects, takes: "v", on: "v"},
		code.OpExpression:  {do: (*Machine).express, on: "v"},
		code.OpIndex:       {do: (*Machine).index, takes: "vv", on: "v"},
		code.OpIndexTwo:    {do: (*Machine).indexTwo, takes: "vv", on: "vv"},
		code.OpSlice:       {do: (*Machine).slice, takes: "v", count: bounds, on: "v"},
		code.OpList:        {do: (*Machine).list, count: oneEach, on: "v"},
		code.OpMap:         {do: (*Machine).mapping, count: twoEach, on: "v"},
		code.OpStruct:      {do: (*Machine).structure, count: oneEach, on: "v"},
		code.OpObject:      {do: (*Machine).object, takes: "v", on: "v"},
		code.OpLiteral:     {do: (*Machine).literal, on: "v"},
		code.OpAssert:      {do: (*Machine).assert, takes: "v", on: "v"},
		code.OpHolds:       {do: (*Machine).holding, takes: "v", on: "vv"},
		code.OpJump:        {do: (*Machine).jump},
		code.OpBranch:      {do: (*Machine).branch, takes: "v"},
		code.OpAnd:         {do: (*Machine).and, takes: "v", there: "v"},
		code.OpOr:          {do: (*Machine).or, takes: "v", there: "v"},
		code.OpPlaceSlot:   {do: (*Machine).placeSlot, on: "p"},
		code.OpPlaceGlobal: {do: (*Machine).placeGlobal, on: "p"},
		code.OpPlaceTaken:  {do: (*Machine).placeTaken, on: "p"},
		code.OpPlaceOf:     {do: (*Machine).placeOf, takes: "v", on: "p"},
		code.OpPlaceIndex:  {do: (*Machine).placeIndex, takes: "vv", on: "p"},
		code.OpPlaceField:  {do: (*Machine).placeField, takes: "e", on: "p"},
		code.OpFetch:       {do: (*Machine).fetch, takes: "p", on: "pv"},
		code.OpPut:         {do: (*Machine).put, takes: "pv"},
		code.OpCall:        {do: (*Machine).call, takes: "v", count: oneEach, on: "v"},
		code.OpBuilt:       {do: (*Machine).builtIn, count: oneEach, on: "v"},
		code.OpDefer:       {do: (*Machine).deferCall, takes: "v", count: oneEach},
		code.OpDeferBuilt:  {do: (*Machine).deferBuilt, count: oneEach},
		code.OpReturn:      {do: (*Machine).giveBack, takes: "v"},
		code.OpTurn:        {do: (*Machine).turn, takes: "v", on: "t"},
		code.OpNext:        {do: (*Machine).next, takes: "t", on: "tvv"},
		code.OpDrop:        {do: (*Machine).drop, count: oneEach},
	}
}

func oneEach(in code.Inst) int { return in.A }

func twoEach(in code.Inst) int { return 2 * in.A }

// bounds is how many of a piece are written: those that B names are left out.
func bounds(in code.Inst) int { return in.A - in.B&1 - in.B>>1 }
