package names_test

import (
	"math/rand/v2"

	"guise/api"
)

// grower makes right trees by chance, without places; room is how deep they may still become.
type grower struct{ *rand.Rand }

func none() api.Node { return node(api.NNone, "") }

// name is one of a few: so names meet, those of the language too.
func (g grower) name() string {
	return oneOf(g.Rand, "a", "a", "b", "b", "c", "x", "T", "S", "P", "K", "f", "main", "int", "list", "fault", "error", "print", "len", "word")
}

func (g grower) label() string { return oneOf(g.Rand, "", "", "L", "M") }

func (g grower) maybe() bool { return g.IntN(2) == 0 }

// some makes up to four of something, less where there is less room.
func (g grower) some(room int, one func(int) api.Node) []api.Node {
	var out []api.Node
	for range g.IntN(min(5, max(1, room+1))) {
		out = append(out, one(room-1))
	}
	return out
}

func (g grower) orNone(room int, one func(int) api.Node) api.Node {
	if g.maybe() {
		return none()
	}
	return one(room)
}

func (g grower) named(int) api.Node { return node(api.NName, g.name()) }

func (g grower) pointer(int) api.Node { return node(api.NPointer, "", g.named(0)) }

// typed makes a type: a name, a pointer, or one of some words.
func (g grower) typed(words ...string) api.Node {
	switch g.IntN(3) {
	case 0:
		return g.named(0)
	case 1:
		return g.pointer(0)
	}
	return node(api.NName, oneOf(g.Rand, words...))
}

func (g grower) program(room int) api.Node {
	return node(api.NProgram, "", g.some(room, g.declaration)...)
}

func (g grower) declaration(room int) api.Node {
	switch g.IntN(6) {
	case 0:
		return node(api.NType, g.name(), node(api.NName, oneOf(g.Rand, "a", "int", "map", "func")))
	case 1:
		return node(api.NStruct, g.name(), g.some(3, func(int) api.Node {
			return node(oneOf(g.Rand, api.NField, api.NEmbed, api.NEmbedPointer), g.name())
		})...)
	case 2:
		return node(api.NProtocol, g.name(), g.some(3, g.wish)...)
	case 3:
		return node(api.NFunc, g.name(), g.params(), g.block(room-1))
	case 4:
		receiver := oneOf(g.Rand, g.named, g.pointer)(0)
		return node(api.NMethodDecl, g.name(), node(api.NReceiver, g.name(), receiver), g.params(), g.block(room-1))
	}
	return node(api.NVar, g.name(), g.expr(room-1))
}

func (g grower) wish(int) api.Node {
	if g.maybe() {
		return node(api.NEmbed, g.name())
	}
	return api.Node{Kind: api.NMethod, Text: g.name(), N: g.IntN(13)}
}

func (g grower) params() api.Node { return node(api.NParams, "", g.some(3, g.named)...) }

// block begins with a variable often, so that there are some to be used.
func (g grower) block(room int) api.Node {
	var out []api.Node
	if room > 2 && g.maybe() {
		out = append(out, node(api.NDefine, g.name(), g.small()))
	}
	return node(api.NBlock, "", append(out, g.some(room, g.statement)...)...)
}

func (g grower) statement(room int) api.Node {
	if room <= 0 {
		return node(oneOf(g.Rand, api.NBreak, api.NContinue), g.label())
	}
	in := room - 1
	switch g.IntN(19) {
	case 0:
		return g.block(in)
	case 1, 16, 17, 18:
		return node(api.NDefine, g.name(), g.expr(in))
	case 2:
		return node(oneOf(g.Rand, api.NDefineTwo, api.NAssignTwo), "", g.named(0), g.named(0), oneOf(g.Rand, g.asserted, g.indexed)(in))
	case 3, 4:
		return node(api.NAssign, oneOf(g.Rand, "=", "+=", "-=", "*=", "/=", "%=", "&=", "|=", "^=", "<<=", ">>="), g.place(in), g.expr(in))
	case 5:
		return g.choice(in)
	case 6:
		return node(api.NFor, g.label(), g.orNone(in, g.expr), g.block(in))
	case 7:
		return node(api.NRange, g.label(), g.orNone(in, g.named), g.orNone(in, g.named), g.expr(in), g.block(in))
	case 8:
		return g.switched(api.NSwitch, in, []api.Node{g.orNone(in, g.expr)}, g.expr)
	case 9:
		return g.switched(api.NTypeSwitch, in, []api.Node{g.orNone(in, g.named), g.expr(in)}, func(int) api.Node {
			return g.typed("map", "func", "any", "nil")
		})
	case 10:
		return node(api.NReturn, "", g.orNone(in, g.expr))
	case 11:
		return node(api.NDefer, "", g.called(in))
	case 12:
		return node(oneOf(g.Rand, api.NBreak, api.NContinue), g.label())
	case 13:
		return node(api.NFall, "")
	case 14:
		return node(api.NStep, oneOf(g.Rand, "++", "--"), g.place(in))
	}
	return node(api.NDo, "", g.called(in))
}

func (g grower) choice(room int) api.Node {
	otherwise := none()
	switch g.IntN(3) {
	case 0:
		otherwise = g.block(room - 1)
	case 1:
		otherwise = g.choice(room - 1)
	}
	return node(api.NIf, "", g.expr(room), g.block(room), otherwise)
}

func (g grower) switched(kind, room int, first []api.Node, part func(int) api.Node) api.Node {
	n := node(kind, g.label(), first...)
	byDefault := g.IntN(5)
	for i := range g.IntN(4) {
		list := none()
		if i != byDefault {
			list = node(api.NList, "", append(g.some(room, part), part(room-1))...)
		}
		n.Kids = append(n.Kids, node(api.NCase, "", list, g.block(room-1)))
	}
	return n
}

func (g grower) place(room int) api.Node {
	switch g.IntN(4) {
	case 0:
		return node(api.NSelect, g.name(), g.expr(room-1))
	case 1:
		return g.indexed(room)
	case 2:
		return node(api.NUnary, "*", g.expr(room-1))
	}
	return g.named(0)
}

func (g grower) indexed(room int) api.Node {
	return node(api.NIndex, "", g.expr(room-1), g.expr(room-1))
}

func (g grower) asserted(room int) api.Node {
	return node(api.NAssert, "", g.expr(room-1), g.typed("map", "func", "any"))
}

func (g grower) called(room int) api.Node {
	first := g.expr(room - 1)
	if g.IntN(4) == 0 {
		first = node(api.NName, oneOf(g.Rand, "map", "int", "print", "len"))
	}
	return node(api.NCall, "", append([]api.Node{first}, g.some(room, g.expr)...)...)
}

func (g grower) made(room int) api.Node {
	return node(api.NMake, g.name(), g.some(room, func(room int) api.Node { return node(api.NPair, g.name(), g.expr(room)) })...)
}

func (g grower) small() api.Node {
	switch g.IntN(9) {
	case 0:
		return node(api.NInt, oneOf(g.Rand, "0", "1", "42", "9223372036854775807"))
	case 1:
		return node(api.NFloat, oneOf(g.Rand, "0.0", "1.50", "12345678.1234567"))
	case 2:
		return node(api.NText, oneOf(g.Rand, "", "a", "{", "if", "_", "-", "\"\n\\\xff//"))
	case 3:
		return node(api.NName, oneOf(g.Rand, "true", "false", "nil"))
	}
	return g.named(0)
}

func (g grower) expr(room int) api.Node {
	if room <= 0 {
		return g.small()
	}
	in := room - 1
	switch g.IntN(22) {
	case 0:
		return node(api.NList, "", g.some(in, g.expr)...)
	case 1:
		return node(api.NMap, "", g.some(in, func(room int) api.Node { return node(api.NPair, "", g.expr(room), g.expr(room)) })...)
	case 2, 3:
		return g.made(in)
	case 4, 5:
		return node(api.NNew, "", g.made(in))
	case 6, 18, 19, 20, 21:
		return node(api.NLiteral, "", g.params(), g.block(in))
	case 7:
		return node(api.NNilOf, "", g.typed("map", "func"))
	case 8:
		return node(api.NSelect, g.name(), g.expr(in))
	case 9:
		return g.indexed(in)
	case 10:
		n := node(api.NSlice, "", g.expr(in), g.orNone(in, g.expr), g.orNone(in, g.expr), none())
		if n.Kids[2].Kind != api.NNone {
			n.Kids[3] = g.orNone(in, g.expr)
		}
		return n
	case 11:
		return g.called(in)
	case 12:
		return g.asserted(in)
	case 13, 14:
		return node(api.NUnary, oneOf(g.Rand, "-", "!", "^", "*"), g.expr(in))
	case 15, 16:
		return node(api.NBinary, oneOf(g.Rand, "||", "&&", "==", "!=", "<", "<=", ">", ">=", "+", "-", "|", "^", "*", "/", "%", "&", "<<", ">>"), g.expr(in), g.expr(in))
	}
	return g.small()
}
