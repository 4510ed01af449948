package certain_test

import (
	"strings"
	"testing"

	"guise/api"
	"guise/certain"
)

// What a value holds is told by these.
const holders = `type K = int
type T struct { x }
type E struct { .T }
type U struct { .*T }
type W struct { .P }
type V struct { .T; .*K2 }
type K2 struct { y }
protocol None { }
protocol P { m(0) }
protocol Q { P; n(1) }
protocol Two { m(1) }
func (k K) m() { }
func (t T) m() { }
func (t *T) n(a) { }
func (k *K2) m() { }
`

func claimsOf(t *testing.T, declared, statements, must string) {
	t.Helper()
	s := declared + "\nfunc main() { " + statements + " }\n"
	n := parsed(t, s)
	is(t, s, claimed(t, n, false), must)
	asTheModel(t, n, s)
}

// An assertion of one type always holds, or never does.
func TestHolding(t *testing.T) {
	for _, r := range []struct{ e, always string }{
		{"nil", ""}, {"1", "int any None"}, {"true", "bool any None"}, {"1.5", "float any None"}, {"\"t\"", "text any None"}, {"[]", "list any None"}, {"map{}", "map any None"}, {"func() { }", "func any None"}, {"nil(list)", "list any None"},
		{"K(1)", "K any None P"}, {"T{}", "T any None P"}, {"&T{}", "*T any None P Q"}, {"E{}", "E any None P"}, {"&E{}", "*E any None P Q"}, {"U{}", "U any None P Q"}, {"&U{}", "*U any None P Q"}, {"W{}", "W any None P"}, {"&W{}", "*W any None P"}, {"V{}", "V any None"}, {"&V{}", "*V any None"},
		{"fault{}", "fault any None"}, {"&fault{}", "*fault any None error"}, {"nil(*T)", "*T any None P Q"}, {"nil(*fault)", "*fault any None error"},
	} {
		for _, want := range strings.Fields("bool int float text list map func any None P Q Two error K T E U W V fault *T *E *U *W *V *fault") {
			is := "never"
			if strings.Contains(" "+r.always+" ", " "+want+" ") {
				is = "always"
			}
			claimsOf(t, holders, "x := ("+r.e+").("+want+")", want+" "+is)
			claimsOf(t, holders, "x, ok := ("+r.e+").("+want+")", want+" "+is)
			claimsOf(t, holders, "switch ("+r.e+").(type) { case "+want+": }", want+" "+is)
		}
		nilIs := map[bool]string{true: "always", false: "never"}[r.e == "nil"]
		claimsOf(t, holders, "switch ("+r.e+").(type) { case nil: }", "nil "+nilIs)
	}
}

func TestSomeHold(t *testing.T) {
	const given = "x := [1, \"t\", K(1), T{}, &T{}, nil][0]; "
	claimsOf(t, holders, given+"print(x.(int), x.(K), x.(any), x.(None), x.(P), x.(Q), x.(*T), x.(float), x.(error), x.(U))", "float never; error never; U never")
	claimsOf(t, holders, given+"y := x.(P); print(y.(P), y.(any), y.(Q), y.(K), y.(text), y.(None), y.(Two))", "P always; any always; text never; None always; Two never")
	// What nobody can come to is told as always.
	claimsOf(t, holders, "x := 1.nothing; print(x.(int), x.(error), x.(*T)); switch x.(type) { case int, nil: case any: case *T: }", "int always; error always; *T always; int always; nil always; any always; *T always")
	claimsOf(t, holders, "x := 1.(text); print(x.(bool))", "text never; bool always")
	want(t, "func f(x) { switch v := x.(type) { case nil: print(v.(int)); default: print(v.(text)) } }\nfunc main() { }", " | nil always; int always; text always")
}

// Of a case's types each is asked of what holds none ahead of it, in its case and in those ahead.
func TestCases(t *testing.T) {
	const given = "x := [1, \"t\", K(1), T{}, &T{}, nil][0]; "
	for _, r := range []struct{ cases, must string }{
		{"case int: case text: case K: case T: case *T: case nil: case any:", "nil always; any always"},
		{"case int, text, K, T, *T, nil, float:", "nil always; float always"},
		{"case nil: case any: case int:", "any always; int always"},
		{"case nil, any, any:", "any always; any always"},
		{"case any: case nil: case nil:", "nil always; nil always"},
		{"case any, any: case int:", "any never; int never"},
		{"case int: case int: case int, int:", "int never; int never; int never"},
		{"case P: case K, T: case *T, Q: case int:", "K never; T never; *T never; Q never"},
		{"case Q: case P: case T:", "T never"},
		{"case None: case int, P: case nil, K:", "int never; P never; nil always; K always"},
		{"default: case any: case float:", "float never"},
		{"case any: default: case float, nil:", "float never; nil always"},
		{"case float: default: case any: case float:", "float never; float never"},
		{"default:", ""}, {"", ""},
	} {
		claimsOf(t, holders, given+"switch x.(type) { "+r.cases+" }", r.must)
		claimsOf(t, holders, given+"switch v := x.(type) { "+r.cases+" }", r.must)
	}
	claimsOf(t, holders, "switch 1.(type) { case text: case int: case nil: case any: case int: }", "text never; int always; nil always; any always; int always")
	claimsOf(t, holders, "switch nil.(type) { case any: case None: case P: case nil: case nil: }", "any never; None never; P never; nil always; nil always")
	claimsOf(t, holders, "switch recover().(type) { case error: case fault: case nil: case *fault: }", "fault never; nil always; *fault always")
	// v has what its case takes; so what is asked of it is certain.
	claimsOf(t, holders, given+"switch v := x.(type) { case int: print(v.(int)); case text, nil: print(v.(text), v.(int)); case P: print(v.(P), v.(K), v.(int)); default: print(v.(bool)) }", "int always; int never; P always; P always; int never; bool always")
	claimsOf(t, holders, given+"switch v := x.(type) { default: print(v.(None), v.(P)); case P, nil: }", "None always; P never")
	// A switch over values, and its cases, tell nothing.
	claimsOf(t, holders, given+"switch x { case 1: case nil: default: }; switch { case true: }", "")
}

// Claims come as their nodes do: one ahead of what is within it, a case's ahead of its block's.
func TestOrderOfClaims(t *testing.T) {
	for _, r := range []struct{ s, must string }{
		{"x := 1.(int).(text).(bool)", "bool always; text never; int always"},
		{"x := 1.(int) + 2.(text)", "int always; text never"},
		{"x := [1.(int), \"t\".(float)][2.(list)]", "int always; float never; list never"},
		{"1.(any).x = 2.(text)", "any always; text never"},
		{"[1.(int)][2.(any)] += 3.(bool)", "int always; any always; bool never"},
		{"x, ok := [1.(int)].(text)", "text never; int always"},
		{"x, ok := [1.(int)][2.(any)]; x, ok = 3.(bool)", "int always; any always; bool never"},
		{"switch 1.(int).(type) { case text: print(2.(any)); case int, nil: print(3.(bool)) }", "int always; text never; any always; int always; nil always; bool never"},
		{"x := func() { switch 1.(type) { case int: print(2.(any)) } }.(text)", "text never; int always; any always"},
		{"switch func() { switch 1.(type) { case any: print(2.(text)) }; return 3.(list) }.(type) { case func: switch 4.(type) { case float: } }", "any always; text never; list never; func always; float never"},
		{"for 1.(int) { x := 2.(any) }", "int always; any always"},
		{"for i in 1.(int) { x := i.(int) }", "int always; int always"},
		{"if 1.(int) { x := 2.(any) } else if 3.(bool) { x := 4.(list) } else { x := 5.(func) }", "int always; any always; bool never; list never; func never"},
		{"switch 1.(int) { case 2.(any), 3.(bool): x := 4.(list); case 5.(func): }", "int always; any always; bool never; list never; func never"},
		{"print(1.(int), len(2.(any)), T{x: 3.(bool)}, map{4.(list): 5.(func)}, &T{x: 6.(map)}, -7.(int), 8.(any)[9.(any):10.(any)], K(11.(any)))", "int always; any always; bool never; list never; func never; map never; int always; any always; any always; any always; any always"},
		{"1.(int)(2.(any)); x := 3.(bool).m(4.(list)); defer 5.(func)(6.(map)); main(7.(text))", "int always; any always; bool never; list never; func never; map never; text never"},
		{"x := 1; x = 2.(any); x -= 3.(int); *4.(any) = 5.(any); 6.(bool).x++; panic(7.(text)); return 8.(list)", "any always; int always; any always; any always; bool never; text never; list never"},
	} {
		claimsOf(t, "type T struct { x }\ntype K = int", r.s, r.must)
	}
	// Declarations as they stand, methods and variables too.
	want(t, "func f() { print(1.(int)) }\nvar a = 2.(any)\ntype T struct { }\nfunc (t T) m() { print(3.(text), t.(T), t.(*T)) }\nfunc main() { print(a.(text)) }\nvar b = func() { print(4.(any)) }", "a: int nil; b: func nil | int always; any always; text never; T always; *T never; text never; any always")
}

// The place is that of the assertion, or of the case; the tree's, whatever they are.
func TestPlacesAreTheTrees(t *testing.T) {
	n := parsed(t, "func main() { x := 5; y := x.(int).(*T); switch x.(type) { case *T, any: case nil: } }\ntype T struct { }\n")
	number := 0
	var places func(n *api.Node)
	places = func(n *api.Node) {
		number++
		n.At = -1000 * number
		for i := range n.Kids {
			places(&n.Kids[i])
		}
	}
	places(&n)
	at := map[int][]int{}
	var seen func(n api.Node)
	seen = func(n api.Node) {
		at[n.Kind] = append(at[n.Kind], n.At)
		for _, kid := range n.Kids {
			seen(kid)
		}
	}
	seen(n)
	asserted, cases := at[api.NAssert], at[api.NCase]
	is(t, "Z2", claimed(t, n, true), claimsTold([]certain.Claim{{At: asserted[0], Want: "*T"}, {At: asserted[1], Want: "int", Always: true}, {At: cases[0], Want: "*T"}, {At: cases[0], Want: "any", Always: true}, {At: cases[1], Want: "nil", Always: true}}, true))
}
