package names_test

import (
	"strconv"
	"strings"
	"testing"

	"guise/api"
	"guise/names"
	"guise/tree"
)

func name(s string) api.Node { return node(api.NName, s) }

// mainOf is a program whose main has these statements.
func mainOf(statements ...api.Node) api.Node {
	return node(api.NProgram, "", node(api.NFunc, "main", node(api.NParams, ""), node(api.NBlock, "", statements...)))
}

// A right tree that is no program: ErrKind, where it stands, without a name; of each kind.
func TestNoProgram(t *testing.T) {
	g := grower{dice(3)}
	one := node(api.NInt, "1")
	named := func(kind int) api.Node { return node(kind, "x") }
	trees := []api.Node{
		node(api.NType, "T", name("int")), named(api.NStruct), named(api.NProtocol), node(api.NFunc, "main", g.params(), g.block(0)),
		node(api.NMethodDecl, "m", node(api.NReceiver, "r", name("T")), g.params(), g.block(0)), node(api.NVar, "x", one), named(api.NField), named(api.NEmbed),
		named(api.NEmbedPointer), named(api.NMethod), node(api.NReceiver, "r", name("T")), g.params(), name("x"), name("nil"), node(api.NPointer, "", name("T")), none(),
		node(api.NBlock, ""), node(api.NDefine, "x", one), node(api.NDefineTwo, "", name("x"), name("x"), node(api.NIndex, "", one, one)),
		node(api.NAssign, "=", name("x"), one), node(api.NAssignTwo, "", name("x"), name("y"), node(api.NIndex, "", one, one)), node(api.NIf, "", one, g.block(0), none()),
		node(api.NFor, "L", none(), g.block(0)), node(api.NRange, "", none(), none(), one, g.block(0)), node(api.NSwitch, "", none()),
		node(api.NTypeSwitch, "", none(), one), node(api.NCase, "", none(), g.block(0)), node(api.NReturn, "", none()), node(api.NDefer, "", node(api.NCall, "", one)),
		node(api.NDo, "", node(api.NCall, "", one)), node(api.NBreak, "L"), node(api.NContinue, ""), node(api.NFall, ""), node(api.NStep, "++", name("x")), one,
		node(api.NFloat, "1.0"), node(api.NText, "main"), node(api.NList, ""), node(api.NMap, ""), node(api.NPair, "", one, one), node(api.NMake, "T"),
		node(api.NNew, "", node(api.NMake, "T")), node(api.NLiteral, "", g.params(), g.block(0)), node(api.NNilOf, "", name("T")), node(api.NSelect, "x", one),
		node(api.NIndex, "", one, one), node(api.NSlice, "", one, none(), none(), none()), node(api.NCall, "", one), node(api.NAssert, "", one, name("T")),
		node(api.NUnary, "-", one), node(api.NBinary, "+", one, one),
	}
	if len(trees) < api.NBinary-api.NProgram {
		t.Fatalf("%d trees", len(trees))
	}
	for _, n := range trees {
		for _, at := range []int{0, 7, -3} {
			n.At = at
			if err := tree.Right(n); err != nil {
				t.Fatal(n, err)
			}
			if got := resolved(t, n); got != wrongTold(api.ErrKind, at, "") {
				t.Errorf("of the kind %d: %s", n.Kind, got)
			}
		}
	}
}

// What tree.Right refuses is told as it tells it, ahead of all else; of a tree of any kind.
func TestTreesThatAreNotRight(t *testing.T) {
	unknown := node(api.NDefine, "x", name("q"))
	deep := node(api.NInt, "1")
	for range 70 {
		deep = node(api.NUnary, "-", deep)
	}
	long := strings.Repeat("a", api.MaxName+1)
	var params, fields, wishes, many []api.Node
	for i := range 70 {
		s := "a" + strconv.Itoa(i)
		params, fields, wishes = append(params, name(s)), append(fields, node(api.NField, s)), append(wishes, node(api.NMethod, s))
	}
	for range api.MaxNodes {
		many = append(many, node(api.NBreak, ""))
	}
	for i, n := range []api.Node{
		{}, {Kind: -1, At: 9}, {Kind: api.NBinary + 1, Text: "x"}, {Kind: api.NProgram, Text: "x"}, {Kind: api.NProgram, N: 1}, node(api.NProgram, "", node(api.NInt, "1")),
		mainOf(unknown, node(api.NBreak, ""), node(api.NInt, "1")), mainOf(unknown, node(api.NDefine, "_", name("q"))), mainOf(unknown, node(api.NDefine, "map", name("q"))),
		mainOf(unknown, node(api.NDefine, long, name("q"))), mainOf(unknown, node(api.NDefine, "x", name(long))), mainOf(unknown, node(api.NDefine, "x", deep)),
		mainOf(unknown, node(api.NFor, "")), mainOf(unknown, node(api.NSwitch, "")), mainOf(unknown, node(api.NTypeSwitch, "", none())),
		mainOf(unknown, node(api.NSwitch, "", none(), node(api.NCase, "", none(), node(api.NBlock, "")), node(api.NCase, "", none(), node(api.NBlock, "")))),
		mainOf(many...), node(api.NProgram, "", node(api.NFunc, "main", node(api.NParams, "", params[:13]...), node(api.NBlock, "", unknown))),
		node(api.NProgram, "", node(api.NFunc, "f"), node(api.NFunc, "f")), node(api.NProgram, "", node(api.NMethodDecl, "f", node(api.NReceiver, "r"))),
		node(api.NProgram, "", node(api.NVar, "x", name("q")), node(api.NStruct, "S", fields[:31]...)),
		node(api.NProgram, "", node(api.NVar, "x", name("q")), node(api.NProtocol, "P", wishes[:61]...)), node(api.NInt, "x"), node(api.NBlock, "", node(api.NInt, "1")),
	} {
		grower{dice(uint64(i))}.scatter(&n)
		err := tree.Right(n)
		if err == nil {
			t.Fatal(i, "is right")
		}
		if got, want := resolved(t, n), toldError(t, err); got != want {
			t.Errorf("%d: %s, must be %s", i, got, want)
		}
		again, _ := names.Resolve(n)
		if _, second := names.Resolve(n); second == err || len(again.Uses) > 0 {
			t.Error("the error is not new")
		}
	}
}

// A tree that goes on without end is told as tree.Right tells it.
func TestEndlessTrees(t *testing.T) {
	kids := []api.Node{{Kind: api.NBlock, At: 5}}
	kids[0].Kids = kids
	if got := resolved(t, mainOf(kids...)); got != wrongTold(api.ErrDeep, 5, "") {
		t.Error(got)
	}
	wide := make([]api.Node, 3)
	for i := range wide {
		wide[i] = api.Node{Kind: api.NBlock, At: i, Kids: wide}
	}
	if got := resolved(t, mainOf(wide...)); got != wrongTold(api.ErrDeep, 0, "") {
		t.Error(got)
	}
}

// As many as there may be of everything; how many types there may be is not asked by names.
func TestLimits(t *testing.T) {
	long := strings.Repeat("n", api.MaxName)
	var params, fields, wishes, types, pairs []api.Node
	for i := range 101 {
		s := "a" + strconv.Itoa(i)
		params, fields, wishes = append(params, name(s)), append(fields, node(api.NField, s)), append(wishes, node(api.NMethod, s))
		types = append(types, node(api.NType, "T"+strconv.Itoa(i), name("list")))
		pairs = append(pairs, node(api.NPair, s, node(api.NNilOf, "", name("T"+strconv.Itoa(i)))))
	}
	n := mainOf(node(api.NDefine, long, node(api.NMake, "S", pairs[:30]...)))
	n.Kids = append(n.Kids, node(api.NStruct, "S", fields[:30]...), node(api.NProtocol, "P", wishes[:60]...))
	n.Kids = append(n.Kids, node(api.NFunc, "f", node(api.NParams, "", params[:12]...), node(api.NBlock, "")))
	n.Kids = append(n.Kids, types...)
	b, err := names.Resolve(n)
	if err != nil || b.Funcs[1].Slots != 12 || b.Uses[len(b.Uses)-1] != (names.Use{Node: tree.Count(n) - 2, Kind: names.TypeOf, Slot: 102}) {
		t.Error(b.Funcs, err)
	}
	if u := b.Uses[3]; u != (names.Use{Node: 8, Kind: names.TypeOf, Slot: 2}) {
		t.Error(u)
	}
	held(t, n, modelOf(&n))
}

// A program of as many nodes as there may be; one more is too many.
func TestManyNodes(t *testing.T) {
	var statements []api.Node
	count := 4
	for i := 0; count+2 <= api.MaxNodes; i++ {
		statements = append(statements, node(api.NDefine, "v"+strconv.Itoa(i), name("v"+strconv.Itoa(i-1))))
		count += 2
	}
	statements[0].Kids[0] = name("nil")
	n := mainOf(statements...)
	if tree.Count(n) != api.MaxNodes {
		t.Fatal(tree.Count(n))
	}
	b, err := names.Resolve(n)
	last := names.Use{Node: api.MaxNodes - 1, Kind: names.Local, Slot: len(statements) - 2}
	if err != nil || b.Funcs[0].Slots != len(statements) || b.Uses[len(b.Uses)-1] != last {
		t.Error(b.Funcs, err)
	}
	n.Kids = append(n.Kids, node(api.NStruct, "S"))
	if got := resolved(t, n); got != wrongTold(api.ErrMany, 0, "S") {
		t.Error(got)
	}
	// The last wrong thing of a long program is found.
	statements[len(statements)-1].Kids[0] = name("q")
	if got := resolved(t, mainOf(statements...)); got != wrongTold(api.ErrUnknown, 0, "q") {
		t.Error(got)
	}
}

// Pairs without end of one struct: the first that may not be is told.
func TestManyPairs(t *testing.T) {
	var pairs []api.Node
	for i := range 9000 {
		pairs = append(pairs, api.Node{Kind: api.NPair, Text: "word", At: i, Kids: []api.Node{node(api.NInt, "1")}})
	}
	if got := resolved(t, mainOf(node(api.NDefine, "x", node(api.NMake, "fault", pairs...)))); got != wrongTold(api.ErrTwice, 1, "word") {
		t.Error(got)
	}
}

// Literals and blocks as deep as there may be.
func TestDeepNests(t *testing.T) {
	// A literal in the expression of a variable, again and again: three nodes deeper each time.
	build := func(levels int) api.Node {
		inner := node(api.NReturn, "", name("x0"))
		for i := levels; i > 0; i-- {
			s := strconv.Itoa(i - 1)
			inner = node(api.NDefine, "f"+s, node(api.NLiteral, "", node(api.NParams, "", name("x"+s)), node(api.NBlock, "", inner)))
		}
		return mainOf(inner)
	}
	const levels = (api.MaxNest - 5) / 3
	n := build(levels)
	b, err := names.Resolve(n)
	if err != nil {
		t.Fatal(err)
	}
	if last := b.Uses[len(b.Uses)-1]; last.Up != levels-1 || last.Slot != 0 {
		t.Error(last)
	}
	if len(b.Funcs) != levels+1 || len(b.Funcs[1].Taken) != 1 || len(b.Funcs[2].Taken) != 0 {
		t.Error(b.Funcs)
	}
	held(t, n, modelOf(&n))
	if got := resolved(t, build(levels+1)); !strings.HasPrefix(got, "!deep") {
		t.Error(got)
	}
}
