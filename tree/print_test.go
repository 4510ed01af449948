package tree_test

import (
	"slices"
	"strings"
	"testing"

	"guise/api"
)

func TestPrintExamples(t *testing.T) {
	a, b, c, made := named("a"), named("b"), named("c"), node(api.NMake, "T")
	for _, x := range []struct {
		n    api.Node
		want string
	}{
		{binary("*", binary("+", a, b), c), "(a + b) * c"},
		{binary("+", a, binary("+", b, c)), "a + (b + c)"},
		{binary("+", binary("+", a, b), c), "a + b + c"},
		{unary("-", unary("-", a)), "-(-a)"},
		{unary("!", binary("==", a, b)), "!(a == b)"},
		{unary("*", selected("f", a)), "*a.f"},
		{selected("f", unary("*", a)), "(*a).f"},
		{selected("x", fresh(made)), "(&T{}).x"},
		{called(literal()), "func() {\n}()"},
		{branch(binary("==", a, made), block(), none()), "if a == (T{}) {\n}"},
		{branch(called(named("f"), made), block(), none()), "if f(T{}) {\n}"},
		{branch(fresh(made), block(), none()), "if (&T{}) {\n}"},
		{node(api.NDo, "", called(named("f"), fresh(made))), "f(&T{})"},
		{node(api.NRange, "", none(), named("v"), named("l"), block(node(api.NBreak, ""))), "for _, v in l {\n\tbreak\n}"},
		{node(api.NRange, "L", named("i"), none(), integer("3"), block()), "L: for i in 3 {\n}"},
		{node(api.NSlice, "", named("l"), none(), none(), none()), "l[:]"},
		{node(api.NSlice, "", named("l"), integer("1"), integer("2"), integer("3")), "l[1:2:3]"},
	} {
		wantPrint(t, x.n, x.want)
	}
}

func TestPrintDeclarations(t *testing.T) {
	x, do := named("x"), node(api.NDo, "", called(named("f")))
	by := func(kid api.Node) api.Node { return node(api.NReceiver, "t", kid) }
	for _, k := range []struct {
		n    api.Node
		want string
	}{
		{node(api.NProgram, ""), ""},
		{node(api.NType, "T", named("map")), "type T = map"},
		{node(api.NType, "T", named("int")), "type T = int"},
		{node(api.NStruct, "T"), "type T struct {\n}"},
		{node(api.NStruct, "T", node(api.NField, "f"), node(api.NEmbed, "S"), node(api.NEmbedPointer, "R")), "type T struct {\n\tf\n\t.S\n\t.*R\n}"},
		{node(api.NProtocol, "P"), "protocol P {\n}"},
		{node(api.NProtocol, "P", method("m", 2), node(api.NEmbed, "Q"), method("n", 0), method("o", 12)), "protocol P {\n\tm(2)\n\tQ\n\tn(0)\n\to(12)\n}"},
		{node(api.NFunc, "f", params("a", "b"), block(do)), "func f(a, b) {\n\tf()\n}"},
		{node(api.NFunc, "f", params(), block()), "func f() {\n}"},
		{node(api.NMethodDecl, "m", by(named("T")), params("a"), block()), "func (t T) m(a) {\n}"},
		{node(api.NMethodDecl, "m", by(pointer("T")), params(), block(do)), "func (t *T) m() {\n\tf()\n}"},
		{node(api.NVar, "x", listed(x, literal(do))), "var x = [x, func() {\n\tf()\n}]"},
		{node(api.NProgram, "", node(api.NStruct, "T", node(api.NField, "x")), node(api.NVar, "v", node(api.NText, "a\""))), "type T struct {\n\tx\n}\nvar v = \"a\\\"\"\n"},
		{node(api.NField, "f"), "f"},
		{node(api.NEmbed, "S"), ".S"},
		{node(api.NEmbedPointer, "S"), ".*S"},
		{method("m", 2), "m(2)"},
		{by(named("T")), "t T"},
		{by(pointer("T")), "t *T"},
		{params(), ""},
		{params("a", "b"), "a, b"},
		{pointer("T"), "*T"},
		{none(), ""},
		{named("func"), "func"},
		{pair("", x, integer("1")), "x: 1"},
		{pair("f", x), "f: x"},
	} {
		wantPrint(t, k.n, k.want)
	}
}

func TestPrintStatements(t *testing.T) {
	x, y, one := named("x"), named("y"), integer("1")
	do, def, asked := node(api.NStep, "++", x), node(api.NDefine, "x", one), node(api.NAssert, "", y, named("T"))
	loop := node(api.NFor, "", none(), block(do))
	for _, k := range []struct {
		n    api.Node
		want string
	}{
		{block(), "{\n}"},
		{block(do, block(do), block()), "{\n\tx++\n\t{\n\t\tx++\n\t}\n\t{\n\t}\n}"},
		{def, "x := 1"},
		{node(api.NDefineTwo, "", x, y, asked), "x, y := y.(T)"},
		{node(api.NAssignTwo, "", x, y, node(api.NIndex, "", y, one)), "x, y = y[1]"},
		{node(api.NAssign, "=", x, one), "x = 1"},
		{node(api.NAssign, "<<=", unary("*", x), one), "*x <<= 1"},
		{node(api.NAssign, "+=", selected("f", x), unary("-", one)), "x.f += -1"},
		{branch(x, block(do), none()), "if x {\n\tx++\n}"},
		{branch(x, block(), block(do)), "if x {\n} else {\n\tx++\n}"},
		{branch(x, block(do), branch(y, block(do), block(do))), "if x {\n\tx++\n} else if y {\n\tx++\n} else {\n\tx++\n}"},
		{branch(x, block(), block(branch(y, block(), none()))), "if x {\n} else {\n\tif y {\n\t}\n}"},
		{loop, "for {\n\tx++\n}"},
		{node(api.NFor, "L", x, block()), "L: for x {\n}"},
		{node(api.NRange, "", x, y, one, block(loop)), "for x, y in 1 {\n\tfor {\n\t\tx++\n\t}\n}"},
		{node(api.NRange, "", none(), none(), one, block()), "for _ in 1 {\n}"},
		{node(api.NSwitch, "", none()), "switch {\n}"},
		{node(api.NSwitch, "L", x, oneCase(listed(one, y), do, do), oneCase(none())), "L: switch x {\ncase 1, y:\n\tx++\n\tx++\ndefault:\n}"},
		{node(api.NTypeSwitch, "", none(), x), "switch x.(type) {\n}"},
		{node(api.NTypeSwitch, "L", y, x, oneCase(listed(pointer("T"), named("nil"), named("any")), do)), "L: switch y := x.(type) {\ncase *T, nil, any:\n\tx++\n}"},
		{block(node(api.NSwitch, "", x, oneCase(none(), node(api.NSwitch, "", y, oneCase(none(), do))))), "{\n\tswitch x {\n\tdefault:\n\t\tswitch y {\n\t\tdefault:\n\t\t\tx++\n\t\t}\n\t}\n}"},
		{block(node(api.NSwitch, "", x, oneCase(listed(literal(do)), block(do)))), "{\n\tswitch x {\n\tcase func() {\n\t\tx++\n\t}:\n\t\t{\n\t\t\tx++\n\t\t}\n\t}\n}"},
		{oneCase(listed(one), do, block()), "case 1:\n\tx++\n\t{\n\t}\n"},
		{oneCase(none()), "default:\n"},
		{oneCase(listed(pointer("T"))), "case *T:\n"},
		{node(api.NReturn, "", none()), "return"},
		{node(api.NReturn, "", one), "return 1"},
		{node(api.NDefer, "", called(literal(do), one)), "defer func() {\n\tx++\n}(1)"},
		{node(api.NDo, "", called(selected("m", x), one, y)), "x.m(1, y)"},
		{node(api.NBreak, ""), "break"},
		{node(api.NBreak, "L"), "break L"},
		{node(api.NContinue, ""), "continue"},
		{node(api.NContinue, "L"), "continue L"},
		{node(api.NFall, ""), "fallthrough"},
		{node(api.NStep, "--", unary("*", x)), "*x--"},
	} {
		wantPrint(t, k.n, k.want)
	}
}

func TestPrintExpressions(t *testing.T) {
	x, one := named("x"), integer("1")
	for _, k := range []struct {
		n    api.Node
		want string
	}{
		{node(api.NFloat, "1.50"), "1.50"},
		{node(api.NText, "a\n\"\\\x00\xff"), `"a\n\"\\\x00\xff"`},
		{listed(), "[]"},
		{listed(one, x), "[1, x]"},
		{mapped(), "map{}"},
		{mapped(pair("", one, x), pair("", x, one)), "map{1: x, x: 1}"},
		{node(api.NMake, "T", pair("f", one), pair("g", x)), "T{f: 1, g: x}"},
		{fresh(node(api.NMake, "T", pair("f", one))), "&T{f: 1}"},
		{node(api.NLiteral, "", params("a", "b"), block()), "func(a, b) {\n}"},
		{node(api.NNilOf, "", named("map")), "nil(map)"},
		{node(api.NNilOf, "", pointer("T")), "nil(*T)"},
		{called(named("nil"), x), "(nil)(x)"},
		{called(named("nil")), "(nil)()"},
		{called(named("map"), x), "map(x)"},
		{called(node(api.NText, "nil"), x), `"nil"(x)`},
		{called(named("true")), "true()"},
		{called(x, named("nil")), "x(nil)"},
		{selected("f", named("nil")), "nil.f"},
		{selected("f", one), "1.f"},
		{node(api.NIndex, "", named("nil"), named("nil")), "nil[nil]"},
		{node(api.NAssert, "", x, pointer("T")), "x.(*T)"},
		{node(api.NAssert, "", x, named("any")), "x.(any)"},
		{node(api.NSlice, "", x, one, none(), none()), "x[1:]"},
		{node(api.NSlice, "", x, none(), one, none()), "x[:1]"},
		{node(api.NSlice, "", x, none(), one, x), "x[:1:x]"},
		{node(api.NSlice, "", x, binary("+", x, one), unary("-", one), x), "x[x + 1:-1:x]"},
		{listed(binary("||", x, one), literal()), "[x || 1, func() {\n}]"},
	} {
		wantPrint(t, k.n, k.want)
	}
}

// Every sign within every sign, on both sides; and every expression behind which something binds.
func TestBrackets(t *testing.T) {
	levels := [][]string{{"||"}, {"&&"}, {"==", "!=", "<", "<=", ">", ">="}, {"+", "-", "|", "^"}, {"*", "/", "%", "&", "<<", ">>"}}
	a, b, c := named("a"), named("b"), named("c")
	for outer, signs := range levels {
		for _, sign := range signs {
			for inner, others := range levels {
				for _, other := range others {
					left, right := "a "+other+" b", "b "+other+" c"
					if inner < outer {
						left = "(" + left + ")"
					}
					if inner <= outer {
						right = "(" + right + ")"
					}
					wantPrint(t, binary(sign, binary(other, a, b), c), left+" "+sign+" c")
					wantPrint(t, binary(sign, a, binary(other, b, c)), "a "+sign+" "+right)
				}
			}
			within := binary(sign, a, b)
			for _, other := range strings.Fields(unarySigns) {
				wantPrint(t, unary(other, within), other+"(a "+sign+" b)")
				wantPrint(t, binary(sign, unary(other, a), unary(other, b)), other+"a "+sign+" "+other+"b")
			}
			wantPosts(t, within, "(a "+sign+" b)")
			wantPrint(t, binary(sign, fresh(node(api.NMake, "T")), fresh(node(api.NMake, "T"))), "&T{} "+sign+" &T{}")
		}
	}
	for _, outer := range strings.Fields(unarySigns) {
		for _, inner := range strings.Fields(unarySigns) {
			want := outer + inner + "a"
			if want == "--a" {
				want = "-(-a)"
			}
			wantPrint(t, unary(outer, unary(inner, a)), want)
		}
		wantPosts(t, unary(outer, a), "("+outer+"a)")
		wantPrint(t, unary(outer, fresh(node(api.NMake, "T"))), outer+"&T{}")
	}
	wantPrint(t, unary("-", node(api.NText, "-")), `-("-")`)
	wantPrint(t, unary("!", node(api.NText, "-")), `!"-"`)
	wantPosts(t, fresh(node(api.NMake, "T")), "(&T{})")
	for _, n := range []api.Node{a, integer("1"), node(api.NText, "x"), listed(), mapped(), node(api.NMake, "T"), literal(), node(api.NNilOf, "", pointer("T")),
		selected("f", a), node(api.NIndex, "", a, b), called(a), node(api.NAssert, "", a, named("T"))} {
		wantPosts(t, n, drawn(n))
	}
}

// wantPosts puts a tree, which is written so there, ahead of all that can stand behind.
func wantPosts(t *testing.T, n api.Node, written string) {
	t.Helper()
	wantPrint(t, selected("f", n), written+".f")
	wantPrint(t, node(api.NIndex, "", n, integer("1")), written+"[1]")
	wantPrint(t, node(api.NSlice, "", n, none(), none(), none()), written+"[:]")
	wantPrint(t, called(n, integer("1")), written+"(1)")
	wantPrint(t, node(api.NAssert, "", n, named("T")), written+".(T)")
	if !strings.Contains(written, "T{}") { // which has brackets in a head anyway
		wantPrint(t, node(api.NTypeSwitch, "", none(), n), "switch "+written+".(type) {\n}")
	}
}

func TestHeads(t *testing.T) {
	a, made := named("a"), node(api.NMake, "T")
	inner := branch(binary("==", a, made), block(), none())
	for _, x := range []struct {
		n    api.Node
		want string
	}{
		{made, "(T{})"},
		{fresh(made), "(&T{})"},
		{fresh(node(api.NMake, "T", pair("f", made))), "(&T{f: T{}})"},
		{node(api.NMake, "T", pair("f", fresh(made))), "(T{f: &T{}})"},
		{binary("==", made, fresh(made)), "(T{}) == (&T{})"},
		{unary("-", fresh(made)), "-(&T{})"},
		{unary("!", binary("==", made, a)), "!(T{} == a)"},
		{binary("*", binary("+", a, made), made), "(a + T{}) * (T{})"},
		{selected("x", made), "(T{}).x"},
		{selected("x", fresh(made)), "(&T{}).x"},
		{node(api.NIndex, "", made, made), "(T{})[T{}]"},
		{node(api.NSlice, "", made, made, fresh(made), none()), "(T{})[T{}:&T{}]"},
		{called(made, made, fresh(made)), "(T{})(T{}, &T{})"},
		{node(api.NAssert, "", made, pointer("T")), "(T{}).(*T)"},
		{listed(made, fresh(made)), "[T{}, &T{}]"},
		{binary("==", mapped(pair("", made, fresh(made))), made), "map{T{}: &T{}} == (T{})"},
		{binary("==", literal(node(api.NReturn, "", made)), made), "func() {\n\treturn T{}\n} == (T{})"},
		{called(literal(inner)), "func() {\n\tif a == (T{}) {\n\t}\n}()"},
		{listed(literal(inner), made), "[func() {\n\tif a == (T{}) {\n\t}\n}, T{}]"},
	} {
		wantPrint(t, branch(x.n, block(node(api.NDo, "", called(a, made))), none()), "if "+x.want+" {\n\ta(T{})\n}")
		wantPrint(t, branch(a, block(), branch(x.n, block(), none())), "if a {\n} else if "+x.want+" {\n}")
		wantPrint(t, node(api.NFor, "L", x.n, block()), "L: for "+x.want+" {\n}")
		wantPrint(t, node(api.NRange, "", a, none(), x.n, block(node(api.NDefine, "x", made))), "for a in "+x.want+" {\n\tx := T{}\n}")
		wantPrint(t, node(api.NSwitch, "", x.n, oneCase(listed(made, fresh(made)), node(api.NReturn, "", made))), "switch "+x.want+" {\ncase T{}, &T{}:\n\treturn T{}\n}")
		asked := x.want
		if x.n.Kind == api.NBinary || x.n.Kind == api.NUnary {
			asked = "(" + printed(t, x.n) + ")"
		}
		wantPrint(t, node(api.NTypeSwitch, "", a, x.n, oneCase(none(), node(api.NReturn, "", made))), "switch a := "+asked+".(type) {\ndefault:\n\treturn T{}\n}")
	}
	wantPrint(t, block(node(api.NDefine, "x", made), node(api.NReturn, "", fresh(made))), "{\n\tx := T{}\n\treturn &T{}\n}")
	wantPrint(t, node(api.NAssign, "=", selected("f", fresh(made)), made), "(&T{}).f = T{}")
}

func TestLongest(t *testing.T) {
	wantPrint(t, node(api.NText, strings.Repeat("a", 59998)), `"`+strings.Repeat("a", 59998)+`"`)
	wantPrint(t, at(7, node(api.NText, strings.Repeat("a", 59999))), "!long@0 ")
	wantPrint(t, node(api.NText, strings.Repeat("\xff", 65536)), "!long@0 ")
	wantPrint(t, listed(times(19999, named("abcdef"))...), "!long@0 ")
	wantPrint(t, listed(times(19999, integer("1"))...), "["+strings.Repeat("1, ", 19998)+"1]")
	lines := block(append(times(19998, node(api.NStep, "++", named("xxxxxx")))[:5454], node(api.NStep, "++", named("x")))...)
	wantPrint(t, lines, "{"+strings.Repeat("\n\txxxxxx++", 5454)[:]+"\n\tx++\n}")
	program := node(api.NProgram, "", times(5000, node(api.NVar, "x", integer("1")))...)
	wantPrint(t, program, strings.Repeat("var x = 1\n", 5000))
	wantPrint(t, node(api.NProgram, "", append(times(5999, node(api.NVar, "x", integer("1"))), node(api.NVar, "x", integer("1")))...), strings.Repeat("var x = 1\n", 6000))
	wantPrint(t, node(api.NProgram, "", append(times(5999, node(api.NVar, "x", integer("1"))), node(api.NVar, "x", integer("10")))...), "!long@0 ")
	big := slices.Repeat([]api.Node{node(api.NText, strings.Repeat("\xff", 65536))}, 19999)
	wantPrint(t, listed(big...), "!long@0 ")
}
