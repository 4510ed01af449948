package types_test

import (
	"strconv"
	"strings"
	"testing"

	"guise/api"
	"guise/tree"
)

// thing is a piece of a program in which one thing is wrong: of which group, and where the mark is; # makes its names its own.
type thing struct {
	group int
	s     string
	code  api.Errno
	name  string
}

// many are so many parts, each behind the one ahead of it.
func many(count int, part string) string {
	var out []string
	for i := range count {
		out = append(out, strings.ReplaceAll(part, "@", strconv.Itoa(i)))
	}
	return strings.Join(out, "; ")
}

var things = []thing{
	{1, "~type int = int", api.ErrTwice, "int"},
	{1, "type A# = int; ~protocol A# { }", api.ErrTwice, "A#"},
	{1, "type A# = ~Nobody;", api.ErrType, "Nobody"},
	{2, "type A# struct { x; ~x }", api.ErrTwice, "x"},
	{2, "type A# struct { ~.Nobody }", api.ErrUnknown, "Nobody"},
	{2, "type A# struct { ~.*Nobody }", api.ErrUnknown, "Nobody"},
	{2, "type A# struct { ~.int }", api.ErrType, "int"},
	{2, "type A# struct { ~.*error }", api.ErrType, "error"},
	{2, "protocol A# { f(0); ~f(1) }", api.ErrTwice, "f"},
	{2, "protocol A# { ~Nobody }", api.ErrUnknown, "Nobody"},
	{2, "protocol A# { ~fault }", api.ErrType, "fault"},
	{2, "func (a ~int) f() { }", api.ErrReceiver, "int"},
	{2, "func (a *~A#) f() { }; type A# = map", api.ErrReceiver, "A#"},
	{2, "type A# struct { }; func (a *A#) f() { }; ~func (a A#) f() { }", api.ErrTwice, "f"},
	{2, "type A# struct { x }; ~func (a A#) x() { }", api.ErrTwice, "x"},
	{2, "type A# = func; " + many(60, "func (a A#) m@() { }") + "; ~func (a A#) more() { }", api.ErrMany, "more"},
	{3, "~type A# struct { .A# }", api.ErrCycle, "A#"},
	{3, "type A# struct { .B# }; ~type B# struct { .C# }; type C# struct { .B# }", api.ErrCycle, "B#"},
	{3, "~protocol A# { f(0); A# }", api.ErrCycle, "A#"},
	{4, "~type A# struct { .B#; .C#; .D# }; type B# struct { .E# }; type C# struct { .E# }; type D# struct { .E#; .F# }; type E# struct { .G# }; type F# struct { .G# }; " +
		"type G# struct { a; b; c; d; e; f; g; h; i; j; k; l; m; n; o; p; q; r; s; t; u; v; w; x }", api.ErrType, "A#"},
	{4, "~protocol A# { f(0); B# }; protocol B# { f(1) }", api.ErrTwice, "f"},
	{4, "~protocol A# { f(0); B# }; protocol B# { " + many(60, "m@(0)") + " }", api.ErrMany, "A#"},
}

// numbered is a piece with names of its own.
func (w thing) numbered(i int) (marked, name string) {
	own := strconv.Itoa(i)
	return strings.ReplaceAll(w.s, "#", own), strings.ReplaceAll(w.name, "#", own)
}

func withoutMark(s string) string { return strings.Replace(s, "~", "", 1) }

// Of two wrong things that of the group ahead is told, whichever stands first; of one group the one that stands first.
func TestTheFirstIsTold(t *testing.T) {
	for _, one := range things {
		for _, two := range things {
			first, firstName := one.numbered(1)
			second, secondName := two.numbered(2)
			if one.group <= two.group {
				wrong(t, first+"; "+withoutMark(second), one.code, firstName)
			} else {
				wrong(t, withoutMark(first)+"; "+second, two.code, secondName)
			}
		}
	}
}

// Of several, in any order: the first group's first.
func TestOfManyTheFirst(t *testing.T) {
	r := dice(11)
	for range 300 {
		var parts []string
		least, at := 5, 0
		for i := range 2 + r.IntN(5) {
			w := oneOf(r, things...)
			s, _ := w.numbered(i)
			parts = append(parts, s)
			if w.group < least {
				least, at = w.group, i
			}
		}
		for i, s := range parts {
			if i != at {
				parts[i] = withoutMark(s)
			}
		}
		marked := strings.Join(parts, "; ")
		place := strings.Index(marked, "~")
		n := read(t, withoutMark(marked))
		if got := made(t, n); strings.Split(got, " ")[1] != strconv.Itoa(place) {
			t.Errorf("Y1: %s: %s", marked, got)
		}
	}
}

// Within one declaration: part by part, and of a part in the order of the chapter.
func TestTheOrderWithinADeclaration(t *testing.T) {
	allWrong(t, api.ErrTwice, `
		type T struct { x; ~x; .Nobody; .int }
		type T struct { x; ~x; x }
		type T struct { Nobody; ~.Nobody }
		type T struct { int; ~.*int }
		protocol P { f(0); ~f(0); Nobody }
		protocol P { f(0); ~f(0); int }
		~type int = Nobody
		type T struct { x }; func (r T) f() { }; ~func (r *T) f() { }; func (r T) x() { }
	`)
	allWrong(t, api.ErrUnknown, `
		type T struct { ~.Nobody; .int; x; x }
		type T struct { .fault; ~.*Nobody; .*error }
		protocol P { ~Nobody; int; f(0); f(0) }
		protocol P { f(0); ~Nobody; f(1) }
	`)
	allWrong(t, api.ErrType, `
		type T struct { ~.int; .Nobody; x; x }
		type T struct { x; ~.*list; x }
		protocol P { ~int; Nobody; f(0); f(0) }
		type T = ~Nobody; type T = int
	`)
	allWrong(t, api.ErrReceiver, `
		type T struct { }; func (r ~int) f() { }; func (r T) f() { }; func (r T) f() { }
		type T = list; func (r T) f() { }; func (r *~T) f() { }
		func (r ~fault) Error() { }
		func (r ~fault) word() { }
	`)
}

// A cycle is told at what leads to itself, not at what leads there; sums only where there is no cycle at all.
func TestCyclesAndSums(t *testing.T) {
	big := "type Big struct { .B1; .B2; .B3; .B4 }; type B1 struct { .S }; type B2 struct { .S }; type B3 struct { .S }; type B4 struct { .S }; type S struct { a; b; c; d; e; f; g; h; i; j; k; l; m; n; o; p; q; r; s; t; u; v; w; x; y }"
	wrong(t, "~"+big, api.ErrType, "Big")
	wrong(t, big+"; ~type T struct { .T }", api.ErrCycle, "T")
	wrong(t, big+"; ~protocol P { P }", api.ErrCycle, "P")
	wrong(t, "~protocol P { f(0); Q }; protocol Q { f(1) }; "+big, api.ErrTwice, "f")
	wrong(t, "~"+big+"; protocol P { f(0); Q }; protocol Q { f(1) }", api.ErrType, "Big")
	wrong(t, "protocol P { f(0); Q }; ~protocol Q { f(1); Q }", api.ErrCycle, "Q")
	wrong(t, "type A struct { .Big; .T }; ~type T struct { .U; .Big }; type U struct { .T }; "+big, api.ErrCycle, "T")
	wrong(t, "~type A struct { .Big }; "+big, api.ErrType, "A")
	wrong(t, "type A struct { .*Big }; ~"+big, api.ErrType, "Big")
}

// What the tree refuses is told ahead of all of it.
func TestTheTreeIsAskedFirst(t *testing.T) {
	for i, w := range things {
		s, _ := w.numbered(i)
		n := read(t, withoutMark(s))
		n.Kids = append(n.Kids, api.Node{Kind: api.NInt, Text: "7", At: 77})
		if got := made(t, n); got != wrongTold(api.ErrKind, 77, "7") {
			t.Errorf("Y1: %s: %s", s, got)
		}
	}
}

// A right tree that is no program: ErrKind, where it stands, with its Text; of each kind.
func TestNoProgram(t *testing.T) {
	one, params, block, none := node(api.NInt, "1"), node(api.NParams, ""), node(api.NBlock, ""), node(api.NNone, "")
	named := func(kind int) api.Node { return node(kind, "x") }
	trees := []api.Node{
		node(api.NType, "T", name("int")), node(api.NType, "int", name("int")), named(api.NStruct), named(api.NProtocol), node(api.NFunc, "main", params, block),
		method("T", true, "m", 3), node(api.NVar, "x", one), named(api.NField), named(api.NEmbed), named(api.NEmbedPointer), named(api.NMethod),
		node(api.NReceiver, "r", name("T")), params, name("x"), name("nil"), name("any"), node(api.NPointer, "", name("T")), none, block, node(api.NDefine, "x", one),
		node(api.NDefineTwo, "", name("x"), name("x"), node(api.NIndex, "", one, one)), node(api.NAssign, "=", name("x"), one),
		node(api.NAssignTwo, "", name("x"), name("y"), node(api.NIndex, "", one, one)), node(api.NIf, "", one, block, none), node(api.NFor, "L", none, block),
		node(api.NRange, "", none, none, one, block), node(api.NSwitch, "M", none), node(api.NTypeSwitch, "", none, one), node(api.NCase, "", none, block),
		node(api.NReturn, "", none), node(api.NDefer, "", node(api.NCall, "", one)), node(api.NDo, "", node(api.NCall, "", one)), node(api.NBreak, "L"),
		node(api.NContinue, ""), node(api.NFall, ""), node(api.NStep, "++", name("x")), one, node(api.NFloat, "1.0"), node(api.NText, "main"), node(api.NText, ""),
		node(api.NText, strings.Repeat("\x00\xff", 30000)), node(api.NList, ""), node(api.NMap, ""), node(api.NPair, "", one, one), node(api.NPair, "x", one), node(api.NMake, "T"),
		node(api.NNew, "", node(api.NMake, "T")), node(api.NLiteral, "", params, block), node(api.NNilOf, "", name("T")), node(api.NSelect, "x", one),
		node(api.NIndex, "", one, one), node(api.NSlice, "", one, none, none, none), node(api.NCall, "", one), node(api.NAssert, "", one, name("T")),
		node(api.NUnary, "-", one), node(api.NBinary, "+", one, one),
	}
	kinds := map[int]bool{api.NProgram: true}
	for _, n := range trees {
		kinds[n.Kind] = true
		for _, at := range []int{0, 7, -3} {
			n.At = at
			if err := tree.Right(n); err != nil {
				t.Fatal(n, err)
			}
			told(t, n, api.ErrKind, n)
		}
	}
	if len(kinds) != api.NBinary {
		t.Errorf("%d kinds", len(kinds))
	}
}

// What tree.Right refuses is told as it tells it; of a tree of any kind. The error is a new one each time.
func TestTreesThatAreNotRight(t *testing.T) {
	deep := node(api.NInt, "1")
	for range 70 {
		deep = node(api.NUnary, "-", deep)
	}
	twice := node(api.NType, "int", name("int"))
	endless := []api.Node{{Kind: api.NBlock, At: 5}}
	endless[0].Kids = endless
	var all []api.Node
	for range api.MaxNodes {
		all = append(all, node(api.NStruct, "T"))
	}
	for i, n := range []api.Node{
		{}, {Kind: -1, At: 9}, {Kind: api.NBinary + 1, Text: "x", At: 3}, {Kind: api.NProgram, Text: "x"}, {Kind: api.NProgram, N: 1}, program(node(api.NInt, "1")), deep,
		node(api.NInt, "x"), node(api.NText, strings.Repeat("a", api.MaxText+1)), program(twice, node(api.NType, "T")), program(twice, node(api.NType, "map", name("int"))),
		program(twice, node(api.NType, "T", name("any"))), program(twice, node(api.NType, "T", name("int"), name("int"))), program(twice, node(api.NType, "T", node(api.NPointer, "", name("int")))),
		program(twice, node(api.NStruct, "T", node(api.NMethod, "m"))), program(twice, node(api.NStruct, "T", node(api.NEmbed, "any"))), program(twice, node(api.NStruct, "T", node(api.NField, "_"))),
		program(twice, node(api.NProtocol, "P", node(api.NField, "x"))), program(twice, node(api.NProtocol, "P", node(api.NEmbedPointer, "P"))), program(twice, node(api.NProtocol, "P", wish("m", -1))),
		program(twice, node(api.NMethodDecl, "m", node(api.NReceiver, "r"), node(api.NParams, ""), node(api.NBlock, ""))), program(twice, node(api.NMethodDecl, "m", node(api.NParams, ""), node(api.NBlock, ""))),
		program(twice, method("map", false, "m", 0)), program(twice, node(api.NVar, "x", deep)), program(append([]api.Node{twice}, all...)...), program(twice, node(api.NField, "x")),
		program(node(api.NFunc, "f", node(api.NParams, ""), endless[0])), program(program()),
	} {
		err := tree.Right(n)
		if err == nil {
			t.Fatal(i, "is right")
		}
		if got, want := made(t, n), toldError(t, err); got != want {
			t.Errorf("Y1: %d: %s, must be %s", i, got, want)
		}
	}
}
