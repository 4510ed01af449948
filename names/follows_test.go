package names_test

import (
	"slices"
	"strconv"
	"testing"

	"guise/api"
	"guise/names"
	"guise/parse"
	"guise/tree"
)

// plan is a program's nodes by their numbers, each with the number of the node in which it stands, and which Kid of it it is.
type plan struct {
	nodes []*api.Node
	in    []int
	index []int
}

func planOf(n *api.Node) *plan {
	p := &plan{}
	p.lay(n, -1, 0)
	return p
}

func (p *plan) lay(n *api.Node, in, index int) {
	number := len(p.nodes)
	p.nodes, p.in, p.index = append(p.nodes, n), append(p.in, in), append(p.index, index)
	for i := range n.Kids {
		p.lay(&n.Kids[i], number, i)
	}
}

func (p *plan) isFunction(number int) bool {
	switch p.nodes[number].Kind {
	case api.NFunc, api.NMethodDecl, api.NLiteral:
		return true
	}
	return false
}

// around is the function in which a node stands; -1: none.
func (p *plan) around(number int) int {
	for number = p.in[number]; number >= 0 && !p.isFunction(number); {
		number = p.in[number]
	}
	return number
}

// declares tells whether a node declares a variable of a function.
func (p *plan) declares(number int) bool {
	switch p.nodes[number].Kind {
	case api.NDefine, api.NReceiver:
		return true
	case api.NCase:
		return p.nodes[p.in[number]].Kind == api.NTypeSwitch && p.nodes[p.in[number]].Kids[0].Kind == api.NName
	case api.NName:
		switch p.nodes[p.in[number]].Kind {
		case api.NParams:
			return true
		case api.NDefineTwo, api.NRange:
			return p.index[number] < 2
		}
	}
	return false
}

// speller is the node whose Text is the name that a use has.
func (p *plan) speller(number int) *api.Node {
	if p.nodes[number].Kind == api.NCase {
		return &p.nodes[p.in[number]].Kids[0]
	}
	return p.nodes[number]
}

// slot is a variable: the number of its function, and its slot there.
type slot struct{ function, number int }

// variable is that to which a use leads.
func (p *plan) variable(u names.Use) slot {
	f := p.around(u.Node)
	for range u.Up {
		f = p.around(f)
	}
	return slot{f, u.Slot}
}

// checkSlots: P4.3, by the tree and what is answered alone.
func checkSlots(t *testing.T, n api.Node) {
	t.Helper()
	b, err := names.Resolve(n)
	if err != nil {
		t.Fatal(err)
	}
	p := planOf(&n)
	declared, taken := map[slot]int{}, map[slot]int{}
	for _, u := range b.Uses {
		if u.Kind == names.Local && p.declares(u.Node) {
			if _, twice := declared[p.variable(u)]; twice || u.Up != 0 {
				t.Fatalf("P4.3: the slot of the variable at %d is another one's, too", u.Node)
			}
			declared[p.variable(u)] = u.Node
		}
	}
	for _, u := range b.Uses {
		if u.Kind != names.Local {
			if u.Up != 0 {
				t.Fatalf("P4.3: %v", u)
			}
			continue
		}
		v := p.variable(u)
		at, has := declared[v]
		if !has || at > u.Node || p.speller(at).Text != p.speller(u.Node).Text {
			t.Fatalf("P4.3: the use %v leads to %d", u, at)
		}
		if u.Up > 0 {
			taken[v]++
		}
	}
	checkFunctions(t, p, b.Funcs, declared, taken)
}

// checkFunctions: each function is told, has a slot for each of its variables, and tells those that are used from further in.
func checkFunctions(t *testing.T, p *plan, funcs []names.Func, declared, taken map[slot]int) {
	t.Helper()
	count := 0
	for number := range p.nodes {
		if !p.isFunction(number) {
			continue
		}
		if count >= len(funcs) || funcs[count].Node != number {
			t.Fatalf("the function at %d is not told", number)
		}
		f := funcs[count]
		count++
		for i := range f.Slots {
			if _, has := declared[slot{number, i}]; !has {
				t.Fatalf("P4.3: nothing has the slot %d of the function at %d", i, number)
			}
			delete(declared, slot{number, i})
			if slices.Contains(f.Taken, i) != (taken[slot{number, i}] > 0) {
				t.Fatalf("P4.3: the slot %d of the function at %d is taken, or not", i, number)
			}
		}
		if !slices.IsSorted(f.Taken) || len(slices.Compact(slices.Clone(f.Taken))) != len(f.Taken) {
			t.Fatalf("%v do not rise", f.Taken)
		}
	}
	if count != len(funcs) || len(declared) != 0 {
		t.Fatalf("P4.3: %d functions, must be %d; variables without a slot: %v", len(funcs), count, declared)
	}
}

// rename gives variables other names: what called answers of each; empty: it stays.
func rename(n api.Node, b names.Bound, called func(slot) string) api.Node {
	out := copied(n)
	p := planOf(&out)
	spelled := map[*api.Node]string{}
	for _, u := range b.Uses {
		if u.Kind == names.Local {
			spelled[p.speller(u.Node)] = called(p.variable(u))
		}
	}
	for node, name := range spelled {
		if name != "" {
			node.Text = name
		}
	}
	return out
}

// bearers are the variables that bear one name together: one alone, or those of all cases of a type switch.
func bearers(n api.Node, b names.Bound) [][]slot {
	p := planOf(&n)
	where := map[*api.Node]int{}
	var out [][]slot
	for _, u := range b.Uses {
		if u.Kind != names.Local || !p.declares(u.Node) {
			continue
		}
		at, has := where[p.speller(u.Node)]
		if !has {
			at = len(out)
			where[p.speller(u.Node)] = at
			out = append(out, nil)
		}
		out[at] = append(out[at], p.variable(u))
	}
	return out
}

func sameOf(t *testing.T, promise string, n api.Node, b names.Bound) {
	t.Helper()
	got, err := names.Resolve(n)
	if err != nil || !sameBound(got, b) {
		text, _ := tree.Print(n)
		t.Fatalf("%s:\n%s\n%v, %s, must be\n%s", promise, text, err, told(n, got), told(n, b))
	}
}

// checkOtherNames: P4.4, of each variable alone, of all together with a name each, also by names that are there from the beginning.
func checkOtherNames(t *testing.T, n api.Node) {
	t.Helper()
	b, err := names.Resolve(n)
	if err != nil {
		t.Fatal(err)
	}
	fresh := map[slot]string{}
	for i, group := range bearers(n, b) {
		for _, v := range group {
			fresh[v] = "z" + strconv.Itoa(i)
		}
		for _, name := range []string{"z", "bool", "typeof"} {
			sameOf(t, "P4.4", rename(n, b, func(v slot) string {
				if slices.Contains(group, v) {
					return name
				}
				return ""
			}), b)
		}
	}
	sameOf(t, "P4.4", rename(n, b, func(v slot) string { return fresh[v] }), b)
}

// checkPlaces: P4.5.
func checkPlaces(t *testing.T, g grower, n api.Node) {
	t.Helper()
	b, err := names.Resolve(n)
	if err != nil {
		t.Fatal(err)
	}
	other := copied(n)
	g.scatter(&other)
	sameOf(t, "P4.5", other, b)
	text, err := tree.Print(n)
	if err != nil {
		t.Fatal(err)
	}
	again, err := parse.Program(text)
	if err != nil || !tree.Same(again, n) {
		t.Fatalf("%s: %v", text, err)
	}
	sameOf(t, "P4.5", again, b)
}

// What follows, of programs by chance.
func TestWhatFollows(t *testing.T) {
	g := &mender{grower: grower{dice(2)}}
	renamed := 0
	for range 400 {
		n := g.right(2+g.IntN(11), nil)
		checkSlots(t, n)
		checkOtherNames(t, n)
		checkPlaces(t, g.grower, n)
		b, _ := names.Resolve(n)
		renamed += len(bearers(n, b))
	}
	if renamed < 1000 {
		t.Errorf("%d variables were called otherwise", renamed)
	}
}

// Programs that have all that declares, and names that hide one another.
func TestWhatFollowsOfSomePrograms(t *testing.T) {
	for _, s := range []string{
		"var x = 1\nfunc main() { x := x; { x := func(x) { { x := func() { return x }; { x := x } } } } }",
		"func (x T) m(y) { for x, y in y { x := func() { y++ } }; switch y := x.(type) { case int: y++; default: x = func() { return y } } }\nfunc main() { }",
		"func main() { x, y := 1[2]; x, y = func() { x, y := x.(int); y = x }[y]; switch x := x.(type) { case int, *fault: x = y; case nil: } }",
		"type x struct { x }\nfunc (y x) x(a) { x: for { y.x = x{x: a}; break x } }\nfunc main() { main := x{x: 1}; main.x() }",
		"func main() { print := func(len) { return func() { return func() { print(len, print) } } } }\nfunc print() { }",
		"func f(a, b, c, d, e) { return func() { return [e, c, a] } }\nvar g = func(a) { return func(b) { return func(c) { return a + b + c } } }\nfunc main() { }",
	} {
		n := read(t, s)
		checkSlots(t, n)
		checkOtherNames(t, n)
		checkPlaces(t, grower{dice(5)}, n)
	}
}
