package walk_test

import (
	"errors"
	"fmt"
	"math"
	"strings"
	"testing"

	"guise/api"
	"guise/names"
	"guise/parse"
	"guise/tree"
	"guise/types"
	"guise/walk"
)

// refused holds what all three calls say against an error that must be.
func refused(t *testing.T, n api.Node, fuel, depth int, must string) {
	t.Helper()
	o, err := walk.Run(n, fuel, depth)
	p, werr := walk.Watch(n, fuel, depth, func(e api.Event) { t.Errorf("W1: an event of what is refused: %v", e) })
	for i, got := range []string{toldWrong(err), toldWrong(werr)} {
		if got != must {
			t.Errorf("W1: call %d: %s; must be %s", i, got, must)
		}
	}
	if o.End != 0 || o.Steps != 0 || len(o.Out) > 0 || p.End != 0 || p.Steps != 0 || len(p.Out) > 0 {
		t.Errorf("W1: an outcome beside an error: %v %v", o, p)
	}
	if err == werr && err != nil {
		t.Errorf("P2: the same error twice")
	}
}

func toldWrong(err error) string {
	if err == nil {
		return "none"
	}
	w, is := err.(*api.Wrong)
	if !is {
		return "an error of another type"
	}
	return fmt.Sprintf("%d at %d %q", int(w.Code), w.At, w.Name)
}

func TestArguments(t *testing.T) {
	good := parsed(t, "func main() { }")
	bad := api.Node{Kind: api.NInt, At: 5}
	for _, c := range [][2]int{{-1, 1}, {1000001, 1}, {1, 0}, {1, 1001}, {-1, 0}, {math.MinInt, 5}, {math.MaxInt, 5}, {5, math.MinInt}, {5, math.MaxInt}} {
		refused(t, good, c[0], c[1], `1 at 0 ""`)
		refused(t, bad, c[0], c[1], `1 at 0 ""`)
		for _, s := range []string{"func main() { }", "$", strings.Repeat(" ", 70000)} {
			if _, err := walk.Text(s, c[0], c[1]); toldWrong(err) != `1 at 0 ""` {
				t.Errorf("W3: Text with %v: %s", c, toldWrong(err))
			}
		}
	}
	for _, c := range [][2]int{{0, 1}, {1, 1}, {1000000, 1}, {0, 1000}, {1000000, 1000}} {
		for _, o := range []api.Outcome{first(walk.Run(good, c[0], c[1])), first(walk.Watch(good, c[0], c[1], nil)), first(walk.Text("func main() { }", c[0], c[1]))} {
			if o.End != map[bool]int{true: api.Done, false: api.Spent}[c[0] > 0] {
				t.Errorf("W1: %v: %v", c, o)
			}
		}
	}
}

func first(o api.Outcome, err error) api.Outcome {
	if err != nil {
		o.End = 99
	}
	return o
}

func TestNoProgram(t *testing.T) {
	long := strings.Repeat("x", 100)
	for _, c := range []struct {
		n    api.Node
		must string
	}{
		{api.Node{}, `20 at 0 ""`},
		{api.Node{Kind: api.NInt, Text: "5", At: 7}, `20 at 7 "5"`},
		{api.Node{Kind: api.NInt, Text: "no int", At: -3}, `20 at -3 "no int"`},
		{api.Node{Kind: api.NBlock, At: 9}, `20 at 9 ""`},
		{api.Node{Kind: api.NText, Text: long, At: 1}, `20 at 1 "` + long + `"`},
		{api.Node{Kind: 1000, Text: "t", At: 2, Kids: []api.Node{{Kind: -1}}}, `20 at 2 "t"`},
		{endless(api.NBlock), `20 at 0 ""`},
	} {
		refused(t, c.n, 10, 10, c.must)
	}
}

// endless is a tree within itself.
func endless(kind int) api.Node {
	kids := make([]api.Node, 1)
	kids[0] = api.Node{Kind: kind, Kids: kids}
	return kids[0]
}

func TestWrongTrees(t *testing.T) {
	deep := endless(api.NProgram)
	refused(t, deep, 10, 10, toldWrong(tree.Right(deep)))
	many := parsed(t, "func main() { }")
	for len(many.Kids) < 20001 {
		many.Kids = append(many.Kids, api.Node{Kind: api.NVar, Text: fmt.Sprint("x", len(many.Kids)), Kids: []api.Node{{Kind: api.NInt, Text: "1"}}})
	}
	refused(t, many, 10, 10, toldWrong(tree.Right(many)))
	for _, c := range []struct {
		s    string
		must api.Errno
	}{
		{"func main() { print(x) }\ntype T struct { .T }", api.ErrUnknown},
		{"func f() { }\ntype T struct { .T }", api.ErrMain},
		{"func main(a) { }\ntype T = T", api.ErrMain},
		{"func main() { x := 1; x := 2 }", api.ErrTwice},
		{"func main() { print = 1 }", api.ErrUse},
		{"func main() { break }", api.ErrLabel},
		{"func main() { }\ntype T struct { .T }", api.ErrCycle},
		{"func main() { }\ntype T = K", api.ErrType},
		{"func main() { }\nfunc (i int) f() { }", api.ErrReceiver},
		{"func main() { }\ntype T struct { .X }", api.ErrUnknown},
	} {
		n := parsed(t, c.s)
		_, err := names.Resolve(n)
		if err == nil {
			_, err = types.Make(n)
		}
		if !errors.Is(err, c.must) {
			t.Fatalf("%s: %v", c.s, err)
		}
		refused(t, n, 10, 10, toldWrong(err))
		_, terr := walk.Text(c.s, 10, 10)
		if toldWrong(terr) != toldWrong(err) || !errors.Is(terr, c.must) {
			t.Errorf("W3: %s: %s; must be %s", c.s, toldWrong(terr), toldWrong(err))
		}
	}
	// A tree that is not right is told ahead of a name that is not known.
	n := parsed(t, "func main() { print(x) }\nvar y = 1")
	n.Kids[1].Kids[0].Text = "01"
	refused(t, n, 10, 10, toldWrong(tree.Right(n)))
}

func TestWrongTexts(t *testing.T) {
	for _, s := range []string{"$", "func main() { x }", "\"", "func main() {", strings.Repeat(" ", 60001), "func main() { " + strings.Repeat("(", 70) + "1", "func main() { print(" + strings.Repeat("-(", 70) + "1" + strings.Repeat(")", 70) + ") }", "protocol P { m(13) }"} {
		_, must := parse.Program(s)
		o, err := walk.Text(s, 10, 10)
		if must == nil || toldWrong(err) != toldWrong(must) || o.End != 0 || len(o.Out) > 0 || o.Steps != 0 {
			t.Errorf("W3: %s: %s; must be %s", brief(s), toldWrong(err), toldWrong(must))
		}
	}
}

func TestErrorIsNilItself(t *testing.T) {
	for _, s := range []string{"func main() { }", "func main() { for { } }", "func main() { main() }", "func main() { for { make(65536) } }"} {
		if o, err := walk.Text(s, 1000, 10); err != nil || o.End == api.Panic || o.End == 0 {
			t.Errorf("P2: %s: %v, %v", s, o, err)
		}
	}
	_, err := walk.Text("func main() { panic(1) }", 10, 10)
	p, is := err.(*api.Panicked)
	if !is || p.Cause != nil {
		t.Errorf("P2: a cause of what is no fault: %v", err)
	}
	var f *api.Fault
	if errors.As(err, &f) {
		t.Errorf("P2: a fault in what is none")
	}
	_, err = walk.Text("func main() { panic(nil) }", 10, 10)
	if !errors.As(err, &f) || f.Word != "panic" || f.More != "" {
		t.Errorf("P2: no fault in one: %v", err)
	}
}
