package certain_test

import (
	"strings"
	"testing"

	"guise/api"
	"guise/names"
	"guise/tree"
	"guise/types"
)

// firstWrong is what the chapter says is told of a tree: of several errors the one that is named first.
func firstWrong(t *testing.T, n api.Node) string {
	t.Helper()
	if n.Kind != api.NProgram {
		return wrongText(api.ErrKind, n.At, n.Text)
	}
	if err := tree.Right(n); err != nil {
		return wrongTold(t, err)
	}
	if _, err := names.Resolve(n); err != nil {
		return wrongTold(t, err)
	}
	if _, err := types.Make(n); err != nil {
		return wrongTold(t, err)
	}
	return ""
}

func refused(t *testing.T, n api.Node, must string) {
	t.Helper()
	is(t, "Types", typed(t, n), must)
	is(t, "Look", claimed(t, n, false), must)
	is(t, "an error", firstWrong(t, n), must)
}

func node(kind int, text string, kids ...api.Node) api.Node {
	return api.Node{Kind: kind, Text: text, Kids: kids}
}

func TestWrong(t *testing.T) {
	for _, c := range []struct {
		s    string // the mark stands ahead of what is told
		code api.Errno
		name string
	}{
		{"~func f() { }", api.ErrMain, "main"},
		{"~func main(a) { }", api.ErrMain, "main"},
		{"func main() { x := ~y }", api.ErrUnknown, "y"},
		{"func main() { x := 1; ~x := 2 }", api.ErrTwice, "x"},
		{"func main() { ~int = 2 }", api.ErrUse, "int"},
		{"func main() { ~break }", api.ErrLabel, ""},
		{"func main() { }\n~type T struct { .T }", api.ErrCycle, "T"},
		{"func main() { }\ntype T struct { ~.Q }", api.ErrUnknown, "Q"},
		{"func main() { }\ntype T = ~U", api.ErrType, "U"},
		{"func main() { }\nfunc (t ~int) m() { }", api.ErrReceiver, "int"},
		{"func main() { }\ntype T struct { x }\n~func (t T) x() { }", api.ErrTwice, "x"},
		// What names says comes ahead of what types says, wherever it stands.
		{"type T struct { .T }\nfunc main() { x := ~y }", api.ErrUnknown, "y"},
		{"type T = U\nfunc (t int) m() { ~break }\nfunc main() { }", api.ErrLabel, ""},
		{"~func f() { }\ntype T struct { .Q }", api.ErrMain, "main"},
		{"type T struct { x; x }\nfunc main() { x := T{~y: 1} }", api.ErrUnknown, "y"},
	} {
		at := strings.Index(c.s, "~")
		s := c.s[:at] + c.s[at+1:]
		refused(t, parsed(t, s), wrongText(c.code, at, c.name))
	}
}

// What the tree says comes ahead of all that names and types say; that it is no program ahead of that.
func TestWrongTrees(t *testing.T) {
	long := strings.Repeat("n", 60)
	refused(t, api.Node{Kind: api.NProgram, At: 3, Text: "x"}, wrongText(api.ErrKind, 3, "x"))
	refused(t, api.Node{Kind: api.NInt, At: 4, Text: "01"}, wrongText(api.ErrKind, 4, "01"))
	refused(t, api.Node{Kind: api.NInt, At: 4, Text: long}, wrongText(api.ErrKind, 4, long))
	refused(t, api.Node{Kind: 0, At: -1}, wrongText(api.ErrKind, -1, ""))
	refused(t, api.Node{Kind: api.NFunc, Text: "main", At: 9, Kids: []api.Node{node(api.NParams, ""), node(api.NBlock, "")}}, wrongText(api.ErrKind, 9, "main"))
	program := parsed(t, "type T struct { .T }\nfunc main() { x := y }")
	program.Kids = append(program.Kids, api.Node{Kind: api.NVar, Text: "v", At: 50, Kids: []api.Node{{Kind: api.NInt, Text: "01", At: 60}}})
	refused(t, program, wrongText(api.ErrKind, 60, "01"))
	program.Kids[2].Kids = nil
	refused(t, program, wrongText(api.ErrKind, 50, "v"))
	deep := node(api.NInt, "1")
	for range 57 {
		deep = node(api.NUnary, "-", deep)
	}
	fits := node(api.NProgram, "", node(api.NVar, "v", deep), parsed(t, "func main() { }").Kids[0])
	if got := typed(t, fits); got != "v: int nil" {
		t.Errorf("Z1: 60 nodes within one another: %s", got)
	}
	refused(t, node(api.NProgram, "", node(api.NVar, "v", node(api.NUnary, "-", deep))), wrongText(api.ErrDeep, 0, "1"))
	many := node(api.NProgram, "", parsed(t, "func main() { }").Kids[0])
	for range 9997 {
		many.Kids[0].Kids[1].Kids = append(many.Kids[0].Kids[1].Kids, node(api.NReturn, "", node(api.NNone, "")))
	}
	refused(t, many, "")
	many.Kids[0].Kids[1].Kids = append(many.Kids[0].Kids[1].Kids, api.Node{Kind: api.NReturn, At: 7, Kids: []api.Node{node(api.NNone, "")}}, node(api.NFall, ""))
	refused(t, many, firstWrong(t, many))
	if !strings.HasPrefix(firstWrong(t, many), "!22 ") {
		t.Error(firstWrong(t, many))
	}
	// A program without anything is without main.
	refused(t, node(api.NProgram, ""), wrongText(api.ErrMain, 0, "main"))
}
