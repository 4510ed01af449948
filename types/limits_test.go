package types_test

import (
	"slices"
	"strconv"
	"strings"
	"testing"

	"guise/api"
	"guise/tree"
	"guise/types"
)

// method is a declared method with so many parameters.
func method(of string, pointer bool, called string, count int) api.Node {
	receiver := name(of)
	if pointer {
		receiver = node(api.NPointer, "", receiver)
	}
	params := node(api.NParams, "")
	for i := range count {
		params.Kids = append(params.Kids, name("p"+strconv.Itoa(i)))
	}
	return node(api.NMethodDecl, called, node(api.NReceiver, "r", receiver), params, node(api.NBlock, ""))
}

func wish(called string, count int) api.Node {
	return api.Node{Kind: api.NMethod, Text: called, N: count}
}

// placed gives each node a place of its own.
func placed(n api.Node) api.Node {
	at := 0
	var lay func(api.Node) api.Node
	lay = func(n api.Node) api.Node {
		at += 3
		n.At = at
		n.Kids = slices.Clone(n.Kids)
		for i := range n.Kids {
			n.Kids[i] = lay(n.Kids[i])
		}
		return n
	}
	return lay(n)
}

// told holds Make's error against a node of the program.
func told(t *testing.T, n api.Node, code api.Errno, at api.Node) {
	t.Helper()
	if got, want := made(t, n), wrongTold(code, at.At, at.Text); got != want {
		t.Errorf("Y1: %s, must be %s", got, want)
	}
}

// numbered are declarations with names of their own, of all three kinds in turn.
func numbered(count int) []api.Node {
	var out []api.Node
	for i := range count {
		s := "T" + strconv.Itoa(i)
		out = append(out, []api.Node{node(api.NType, s, name("int")), node(api.NStruct, s), node(api.NProtocol, s)}[i%3])
	}
	return out
}

// A hundred types and protocols: one more is told, ahead of what else is wrong with it but its name.
func TestManyTypes(t *testing.T) {
	hundred := numbered(api.MaxTypes)
	x, err := types.Make(program(hundred...))
	if err != nil || len(x.Names()) != 68 || len(x.Protocols()) != 34 {
		t.Fatal(err, x.Names())
	}
	for _, more := range []api.Node{
		node(api.NType, "More", name("int")), node(api.NStruct, "More"), node(api.NProtocol, "More"), node(api.NType, "More", name("Nobody")),
		node(api.NStruct, "More", node(api.NEmbed, "More")),
	} {
		n := placed(program(append(slices.Clone(hundred), more)...))
		told(t, n, api.ErrMany, n.Kids[100])
		n = placed(program(append(slices.Clone(hundred), more, more)...))
		told(t, n, api.ErrMany, n.Kids[100])
		n = placed(program(append([]api.Node{more}, hundred...)...))
		if more.Kids == nil {
			told(t, n, api.ErrMany, n.Kids[100])
		}
		more.Text = "T7"
		n = placed(program(append(slices.Clone(hundred), more)...))
		told(t, n, api.ErrTwice, n.Kids[100])
	}
	// Functions, variables and methods are none of them.
	others := append(slices.Clone(hundred), node(api.NFunc, "More", node(api.NParams, ""), node(api.NBlock, "")), node(api.NVar, "More", node(api.NInt, "1")), method("T0", false, "More", 0))
	if got := made(t, program(append(others, others[100:102]...)...)); got != "fine" {
		t.Error(got)
	}
	n := placed(program(append(others[100:103:103], numbered(101)...)...))
	told(t, n, api.ErrMany, n.Kids[103])
	// One that is told ahead of the hundredth.
	wrongKind := slices.Clone(hundred)
	wrongKind[99] = node(api.NType, "T99", name("Nobody"))
	n = placed(program(append(wrongKind, node(api.NType, "More", name("int")))...))
	told(t, n, api.ErrType, n.Kids[99].Kids[0])
}

// The type that is one too many is told ahead of what is wrong in the groups behind, and behind what is wrong with a name ahead of it.
func TestManyTypesAndWrongThings(t *testing.T) {
	for i, w := range things {
		s, _ := w.numbered(i)
		piece := placed(read(t, withoutMark(s)))
		count := 0
		for _, d := range piece.Kids {
			if declares(d) {
				count++
			}
		}
		n := placed(program(slices.Concat(piece.Kids, numbered(api.MaxTypes-count+1))...))
		if w.group > 1 {
			told(t, n, api.ErrMany, n.Kids[len(n.Kids)-1])
		} else if got := made(t, n); got != made(t, piece) {
			t.Errorf("Y1: %s: %s", s, got)
		}
		n = placed(program(slices.Concat(numbered(api.MaxTypes+1), piece.Kids)...))
		told(t, n, api.ErrMany, n.Kids[api.MaxTypes])
	}
}

// Sixty methods of a type: one more is told, unless its name is there; pointers and values are counted together, each type by itself.
func TestManyMethods(t *testing.T) {
	for _, declared := range []api.Node{node(api.NType, "T", name("map")), node(api.NStruct, "T", node(api.NField, "x"), node(api.NField, "y"))} {
		var list []api.Node
		for i := range api.MaxMethods {
			list = append(list, method("T", declared.Kind == api.NStruct && i%2 == 0, "m"+strconv.Itoa(i), i%13))
		}
		all := append([]api.Node{declared}, list...)
		x, err := types.Make(program(all...))
		if err != nil {
			t.Fatal(err)
		}
		if got := len(x.Methods("T", declared.Kind == api.NStruct)); got != api.MaxMethods {
			t.Errorf("Y4: %d methods", got)
		}
		n := placed(program(append(slices.Clone(all), method("T", false, "m60", 0))...))
		told(t, n, api.ErrMany, n.Kids[61])
		n = placed(program(append(slices.Clone(list), method("T", false, "m60", 0), declared)...))
		told(t, n, api.ErrMany, n.Kids[60])
		n = placed(program(append(slices.Clone(all), method("T", false, "m59", 0))...))
		told(t, n, api.ErrTwice, n.Kids[61])
		n = placed(program(append(slices.Clone(all), method("Nobody", false, "m60", 0))...))
		told(t, n, api.ErrReceiver, n.Kids[61].Kids[0].Kids[0])
		if declared.Kind == api.NStruct {
			n = placed(program(append(slices.Clone(all), method("T", true, "y", 0))...))
			told(t, n, api.ErrTwice, n.Kids[61])
			n = placed(program(append(slices.Clone(all), method("T", true, "m60", 0))...))
			told(t, n, api.ErrMany, n.Kids[61])
		}
		for i := range api.MaxMethods {
			all = append(all, method("U", true, "m"+strconv.Itoa(i), 0))
		}
		all = append(all, node(api.NStruct, "U"))
		if got := made(t, program(all...)); got != "fine" {
			t.Error(got)
		}
	}
}

// Sixty methods of a protocol, its own and those that it embeds, each name once.
func TestManyWishes(t *testing.T) {
	wishes := func(from, to int) (out []api.Node) {
		for i := from; i < to; i++ {
			out = append(out, wish("m"+strconv.Itoa(i), i%13))
		}
		return out
	}
	p, q, r := node(api.NProtocol, "P", append(wishes(0, 20), node(api.NEmbed, "Q"), node(api.NEmbed, "R"))...), node(api.NProtocol, "Q", wishes(10, 40)...), node(api.NProtocol, "R", wishes(30, 60)...)
	x, err := types.Make(program(p, q, r))
	if err != nil {
		t.Fatal(err)
	}
	if list, _ := x.Wants("P"); len(list) != api.MaxMethods {
		t.Errorf("Y4: %d methods", len(list))
	}
	r.Kids = append(r.Kids, wish("m60", 0))
	n := placed(program(p, q, r))
	told(t, n, api.ErrMany, n.Kids[0])
	n = placed(program(r, q, p))
	told(t, n, api.ErrMany, n.Kids[2])
	// Two of one name with unlike counts are told first.
	q.Kids = append(q.Kids, wish("m60", 1))
	n = placed(program(q, r, p))
	if got := made(t, n); got != wrongTold(api.ErrTwice, n.Kids[2].At, "m60") {
		t.Error(got)
	}
	// Sixty parts are as many as the tree lets a protocol have.
	full := node(api.NProtocol, "F", wishes(0, 60)...)
	if got := made(t, program(full)); got != "fine" {
		t.Error(got)
	}
	n = placed(program(node(api.NProtocol, "G", append(wishes(1, 60), node(api.NEmbed, "F"))...), full))
	if got := made(t, n); got != "fine" {
		t.Error(got)
	}
	n = placed(program(node(api.NProtocol, "G", wish("g", 0), node(api.NEmbed, "F")), full))
	told(t, n, api.ErrMany, n.Kids[0])
	n = placed(program(full, node(api.NProtocol, "G", node(api.NEmbed, "error"), node(api.NEmbed, "F"))))
	told(t, n, api.ErrMany, n.Kids[1])
	full.Kids = append(full.Kids, wish("m60", 0))
	n = placed(program(full))
	told(t, n, api.ErrMany, n.Kids[0])
	if tree.Right(n) == nil {
		t.Error("that is the tree's to tell")
	}
	full.Kids[60] = node(api.NEmbed, "F")
	n = placed(program(full))
	told(t, n, api.ErrMany, n.Kids[0])
}

// plain is a struct type with so many plain fields, and further ones.
func plain(called string, count int, more ...api.Node) api.Node {
	n := node(api.NStruct, called)
	for i := range count {
		n.Kids = append(n.Kids, node(api.NField, "f"+strconv.Itoa(i)))
	}
	n.Kids = append(n.Kids, more...)
	return n
}

// A zero's size: 100 may be, 101 not; what embeds a type that is too large is told as well, whichever comes first.
func TestSizes(t *testing.T) {
	a, b, c := plain("A", 30), plain("B", 30), plain("C", 30)
	embed := []api.Node{node(api.NEmbed, "A"), node(api.NEmbed, "B"), node(api.NEmbed, "C")}
	for plains := range 10 {
		s := plain("S", plains, embed...)
		n := placed(program(s, a, b, c))
		if 1+plains+3*31 > api.MaxSize {
			told(t, n, api.ErrType, n.Kids[0])
			n = placed(program(a, b, c, node(api.NStruct, "Z", node(api.NEmbed, "S")), s))
			told(t, n, api.ErrType, n.Kids[3])
			continue
		}
		x, err := types.Make(n)
		if err != nil {
			t.Fatal(err)
		}
		if zero, is := x.Zero("S"); size(zero) != 94+plains || !is {
			t.Errorf("Y2: %d plain fields: %d", plains, size(zero))
		}
	}
	// An embedded pointer and an embedded protocol count 1, whatever they lead to.
	s := plain("S", 4, append(slices.Clone(embed), node(api.NEmbedPointer, "S"), node(api.NEmbed, "error"))...)
	n := placed(program(s, a, b, c))
	if got := made(t, n); got != "fine" {
		t.Error(got)
	}
	n.Kids[0].Kids = append(n.Kids[0].Kids, node(api.NEmbedPointer, "fault"))
	told(t, n, api.ErrType, n.Kids[0])
	n.Kids[0].Kids[len(n.Kids[0].Kids)-1] = node(api.NField, "more")
	told(t, n, api.ErrType, n.Kids[0])
	// An embedded fault counts 3.
	for plains, want := range []string{"fine", "fine", "fine", "fine", "!type"} {
		n = placed(program(plain("S", plains, append(slices.Clone(embed), node(api.NEmbed, "fault"))...), a, b, c))
		if got := made(t, n); !strings.HasPrefix(got, want) {
			t.Errorf("Y1: %d plain fields: %s", plains, got)
		}
	}
}

// Types within types, more than could be counted: told at the first one that is too large.
func TestSizesWithoutEnd(t *testing.T) {
	var list []api.Node
	for i := range api.MaxTypes {
		s := node(api.NStruct, "T"+strconv.Itoa(i))
		for j := i + 1; j < min(i+31, api.MaxTypes); j++ {
			s.Kids = append(s.Kids, node(api.NEmbed, "T"+strconv.Itoa(j)))
		}
		list = append(list, s)
	}
	n := placed(program(list...))
	told(t, n, api.ErrType, n.Kids[0])
	slices.Reverse(list)
	n = placed(program(list...))
	told(t, n, api.ErrType, n.Kids[7]) // T99 has the size 1, each one ahead of it twice that
	pointers := copied(program(list...))
	for i := range pointers.Kids {
		for j := range pointers.Kids[i].Kids {
			pointers.Kids[i].Kids[j].Kind = api.NEmbedPointer
		}
	}
	x, err := types.Make(pointers)
	if err != nil {
		t.Fatal(err)
	}
	find(t, x, "T0", "T30", "field 29")
	find(t, x, "T0", "T31", "twice")
	find(t, x, "T69", "T99", "field 29")
	find(t, x, "T68", "T99", "twice")
	find(t, x, "T0", "x", "nothing")
}

// A chain as long as there may be: the path has a number for each link.
func TestLongChains(t *testing.T) {
	list := []api.Node{method("T99", true, "f", 2), method("T99", false, "g", 1)}
	var wishes []api.Node
	path := make([]int, 99)
	for i := range api.MaxTypes {
		s := plain("T"+strconv.Itoa(i), i%3)
		p := node(api.NProtocol, "P"+strconv.Itoa(i))
		if i < 99 {
			path[i] = i % 3
			s.Kids = append(s.Kids, node(api.NEmbedPointer, "T"+strconv.Itoa(i+1)))
			p.Kids = append(p.Kids, node(api.NEmbed, "P"+strconv.Itoa(i+1)))
		}
		list, wishes = append(list, s), append(wishes, p)
	}
	x, err := types.Make(program(list...))
	if err != nil {
		t.Fatal(err)
	}
	find(t, x, "T0", "f", "method "+digits(path)+" *T99/2")
	find(t, x, "T0", "g", "method "+digits(path)+" T99/1")
	find(t, x, "T0", "T99", "field "+digits(path))
	methods(t, x, "T0", "f/2 g/1")
	methods(t, x, "T99", "g/1")
	wishes[99].Kids = append(wishes[99].Kids, wish("w", 3))
	x, err = types.Make(program(wishes...))
	if err != nil {
		t.Fatal(err)
	}
	wants(t, x, "P0", "w/3", true)
	// By values one is too large, where a hundred are within one another with a field of their own.
	for i := range 99 {
		s := &list[2+i].Kids
		(*s)[len(*s)-1].Kind = api.NEmbed
	}
	n := placed(program(list...))
	told(t, n, api.ErrType, n.Kids[2])
	// And just fine without one: the size of each is one more than that of the next.
	for i := range list[2:] {
		s := &list[2+i].Kids
		*s = slices.DeleteFunc(*s, func(f api.Node) bool { return f.Kind == api.NField })
	}
	x, err = types.Make(program(list...))
	if err != nil {
		t.Fatal(err)
	}
	if zero, _ := x.Zero("T0"); size(zero) != api.MaxSize {
		t.Errorf("Y2: %d", size(zero))
	}
	find(t, x, "*T0", "f", "method "+digits(make([]int, 99))+" *T99/2")
	find(t, x, "T0", "f", "nothing")
	// A loop of a hundred.
	list[101].Kids = []api.Node{node(api.NEmbed, "T50")}
	n = placed(program(list...))
	told(t, n, api.ErrCycle, n.Kids[52])
	wishes[99].Kids = append(wishes[99].Kids, node(api.NEmbed, "P0"))
	n = placed(program(wishes...))
	told(t, n, api.ErrCycle, n.Kids[0])
}

// Thirty fields, names of forty bytes, twelve parameters: as many as the tree lets there be.
func TestLimitsOfTheTree(t *testing.T) {
	long := strings.Repeat("n", api.MaxName)
	x, err := types.Make(program(plain(long, 30), method(long, true, "m", 12), node(api.NProtocol, "P", wish("m", 12))))
	if err != nil {
		t.Fatal(err)
	}
	if fields, _ := x.Fields(long); len(fields) != 30 || fields[29] != "f29" {
		t.Error(fields)
	}
	find(t, x, long, "f29", "field 29")
	methods(t, x, "*"+long, "m/12")
	lacks(t, x, "*"+long, "P", "", false)
	for _, n := range []api.Node{
		plain("T", 31), plain(long+"n", 1), plain("T", 1, node(api.NField, long+"n")), node(api.NType, long+"n", name("int")), method("T", true, "m", 13),
		method("T", true, long+"n", 0), method(long+"n", true, "m", 0), node(api.NProtocol, "P", wish("m", 13)), node(api.NProtocol, "P", wish(long+"n", 0)),
	} {
		n = placed(program(node(api.NType, "int", name("int")), n))
		err := tree.Right(n)
		if err == nil {
			t.Fatal(n)
		}
		if got, want := made(t, n), toldError(t, err); got != want {
			t.Errorf("Y1: %s, must be %s", got, want)
		}
	}
}

// A program of as many nodes as there may be, all of them declarations of methods and types; one more is too many.
func TestManyNodes(t *testing.T) {
	var list []api.Node
	for i := range 65 {
		list = append(list, node(api.NStruct, "T"+strconv.Itoa(i)))
		if i > 0 {
			list[len(list)-1].Kids = []api.Node{node(api.NEmbedPointer, "T"+strconv.Itoa(i-1))}
		}
		for j := range api.MaxMethods {
			list = append(list, method("T"+strconv.Itoa(i), false, "m"+strconv.Itoa(i)+"_"+strconv.Itoa(j), 0))
		}
	}
	count := tree.Count(program(list...))
	for ; count+3 <= api.MaxNodes; count += 2 {
		list = append(list, node(api.NVar, "v", node(api.NInt, "1")))
	}
	for ; count < api.MaxNodes; count++ {
		list = append(list, node(api.NProtocol, "P"+strconv.Itoa(count)))
	}
	x, err := types.Make(program(list...))
	if err != nil || tree.Count(program(list...)) != api.MaxNodes {
		t.Fatal(err, count)
	}
	if got := len(x.Methods("T64", false)); got != 65*api.MaxMethods {
		t.Error(got)
	}
	find(t, x, "T64", "m0_59", "method "+digits(make([]int, 64))+" T0/0")
	n := placed(program(append(list, node(api.NStruct, "int"))...))
	told(t, n, api.ErrMany, n.Kids[len(list)])
}
