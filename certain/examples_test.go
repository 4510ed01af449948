package certain_test

import (
	"testing"

	"guise/api"
	"guise/certain"
)

func TestExamples(t *testing.T) {
	want(t, "var a = 1\nvar b = f(a)\nfunc f(x) { return x }\nfunc main() { a = \"t\" }", "a: int nil text; b: int nil text | ")
	want(t, "func main() { x := [1]; y := x[0].(int); print(x.(list), y) }", " | list always")
	want(t, "func main() { x := 5; switch x.(type) { case text: case int: case nil: } }", " | text never; int always; nil always")
	want(t, "func main() { print(recover().(error)) }", " | ")
}

// The places are those of the assertion, and of the case.
func TestPlacesOfClaims(t *testing.T) {
	n := parsed(t, "func main() { x := 5; y := x.(int).(text); switch x.(type) { case text, int: } }")
	is(t, "Z2", claimed(t, n, true), claimsTold([]certain.Claim{{34, "text", false}, {28, "int", true}, {61, "text", false}, {61, "int", true}}, true))
}

// The chapter says what no program is told.
func TestNoProgram(t *testing.T) {
	for _, n := range []api.Node{{}, {Kind: api.NInt, Text: "1", At: 7}, {Kind: 99, Text: "what", At: -3}} {
		is(t, "no program", typed(t, n), wrongText(api.ErrKind, n.At, n.Text))
		is(t, "no program", claimed(t, n, false), wrongText(api.ErrKind, n.At, n.Text))
	}
}
