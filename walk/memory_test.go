package walk_test

import (
	"fmt"
	"slices"
	"strings"
	"testing"
	"unsafe"

	"guise/api"
	"guise/walk"
)

// own is a tree whose texts, and lists with spare room, are memory of its own.
func own(n api.Node) api.Node {
	n.Text = string([]byte(n.Text))
	if n.Kids != nil {
		kids := make([]api.Node, len(n.Kids), len(n.Kids)+3)
		for i, kid := range n.Kids {
			kids[i] = own(kid)
		}
		for i := len(kids); i < cap(kids); i++ {
			kids[:i+1][i] = api.Node{Kind: 77, Text: "behind"}
		}
		n.Kids = kids
	}
	return n
}

// drawn is all of a tree as a text, with what stands behind its lists.
func drawn(n api.Node) string {
	out := fmt.Sprint("(", n.Kind, " ", n.Text, " ", n.N, " ", n.At)
	for _, kid := range n.Kids[:cap(n.Kids)] {
		out += drawn(kid)
	}
	return out + ")"
}

// ruin writes over all texts of a tree.
func ruin(n api.Node) {
	overwrite(n.Text)
	for i := range n.Kids {
		ruin(n.Kids[i])
		n.Kids[i] = api.Node{Kind: 99, Text: "?"}
	}
}

// overwrite leaves texts of one byte alone: Go has these once for all, where nobody writes.
func overwrite(s string) {
	if len(s) > 1 {
		b := unsafe.Slice(unsafe.StringData(s), len(s))
		for i := range b {
			b[i] = '~'
		}
	}
}

func TestNothingIsChanged(t *testing.T) {
	grown(t, 31, 60, func(s string, n api.Node) {
		n = own(n)
		was := drawn(n)
		walk.Run(n, 300, 20)
		walk.Watch(n, 50, 3, func(api.Event) {})
		if drawn(n) != was {
			t.Fatalf("W4: the tree was changed: %s", s)
		}
	})
}

const keeping = `
type T struct { field }
func (t T) m() { return t.field }
func named() { print("line"); print("one", "two"); print(T.m(T{field: "held"})) }
func main() { named(); defer print("deferred"); panic(&fault{word: "the word", more: "the more"}) }
`

// What came out stays as it is, whatever is done with the tree behind the run, and the other way round.
func TestNothingIsKept(t *testing.T) {
	n := own(parsed(t, keeping))
	var events []api.Event
	o, err := walk.Watch(n, 100, 10, func(e api.Event) { events = append(events, e) })
	must, texts := told(o, err), eventTexts("", events)
	copied, copiedTexts := string([]byte(must)), string([]byte(texts))
	ruin(n)
	if got := told(o, err); got != copied {
		t.Errorf("W4: behind the tree was written over: %s; must be %s", got, copied)
	}
	if got := eventTexts("", events); got != copiedTexts {
		t.Errorf("W4: behind the tree was written over: %s; must be %s", got, copiedTexts)
	}
	n = own(parsed(t, keeping))
	was := drawn(n)
	p, perr := walk.Watch(n, 100, 10, func(e api.Event) { overwrite(e.Text) })
	if got := told(p, perr); got != copied {
		t.Errorf("P3: with events that are written over: %s; must be %s", got, copied)
	}
	for _, line := range p.Out {
		overwrite(line)
	}
	e := perr.(*api.Panicked)
	overwrite(e.Shown)
	overwrite(e.Cause.(*api.Fault).Word)
	overwrite(e.Cause.(*api.Fault).More)
	if drawn(n) != was {
		t.Errorf("P3: what came out shares memory with the tree")
	}
	if got := told(walk.Run(n, 100, 10)); got != copied {
		t.Errorf("P4: behind what came out was written over: %s", got)
	}
}

// A tree that is changed by who watches is played as it was handed in.
func TestChangedMeanwhile(t *testing.T) {
	n := own(parsed(t, keeping))
	must := told(walk.Run(n, 100, 10))
	first := true
	got := told(walk.Watch(n, 100, 10, func(api.Event) {
		if first {
			for i := range n.Kids {
				n.Kids[i] = api.Node{Kind: api.NInt, Text: "0"}
			}
		}
		first = false
	}))
	if got != must {
		t.Errorf("W4: %s; must be %s", got, must)
	}
}

// Lines are memory of their own, spare room too; so are errors.
func TestNewMemory(t *testing.T) {
	n := parsed(t, `func main() { s := "text"; print(s); print(s); print(s[1:]); panic(&fault{word: s, more: s}) }`)
	o, err := walk.Run(n, 100, 10)
	p, perr := walk.Run(n, 100, 10)
	overwrite(o.Out[0])
	if strings.Join(o.Out, "|") != "~~~~|text|ext" || strings.Join(p.Out, "|") != "text|text|ext" {
		t.Errorf("W4: lines share memory: %q, %q", o.Out, p.Out)
	}
	_ = append(o.Out, "more")
	if len(p.Out) != 3 || err == perr || err.(*api.Panicked).Cause == perr.(*api.Panicked).Cause {
		t.Errorf("P2: errors of two runs are one")
	}
	f := err.(*api.Panicked).Cause.(*api.Fault)
	overwrite(f.Word)
	if f.More != "text" || err.(*api.Panicked).Shown != `&fault{word: "text", more: "text"}` {
		t.Errorf("P3: texts of a fault share memory: %q, %q", f.Word, f.More)
	}
	bad := own(api.Node{Kind: api.NName, Text: "abc"})
	_, err = walk.Run(bad, 10, 10)
	overwrite(bad.Text)
	if err.(*api.Wrong).Name != "abc" {
		t.Errorf("P3: an error shares memory with the tree: %v", err)
	}
}

// A text is not kept by Text, either.
func TestTextIsNotKept(t *testing.T) {
	s := string([]byte(keeping))
	o, err := walk.Text(s, 100, 10)
	was := string([]byte(told(o, err)))
	overwrite(s)
	if told(o, err) != was {
		t.Errorf("W4: what came out shares memory with the text: %s", told(o, err))
	}
	s = string([]byte("func main() { print(nobody) }"))
	_, err = walk.Text(s, 100, 10)
	overwrite(s)
	if err.(*api.Wrong).Name != "nobody" {
		t.Errorf("P3: an error shares memory with the text: %v", err)
	}
}

// Many nodes may have one long text between them: that takes no more memory than it must.
func TestLongTextsInATree(t *testing.T) {
	long := strings.Repeat("a", api.MaxText)
	n := parsed(t, "func main() { x := [\"b\"]; print(len(x), len(x[0])) }")
	made := &n.Kids[0].Kids[1].Kids[0].Kids[0]
	made.Kids = slices.Repeat([]api.Node{{Kind: api.NText, Text: long}}, 15000)
	if got := told(walk.Run(n, 100, 10)); got != "done: 15000 65536" {
		t.Errorf("W4: %s", brief(got))
	}
}

// A fault may say more than a text may have.
func TestLongFaults(t *testing.T) {
	name := "t" + strings.Repeat("x", 39)
	var args strings.Builder
	for range 9000 {
		args.WriteString(",x")
	}
	declared := "type " + name + " = int\n"
	call := "x := " + name + "(1); append(1" + args.String() + ")"
	_, err := walk.Text(declared+"func main() { "+call+" }", 100, 10)
	p, is := err.(*api.Panicked)
	if !is || p.Shown != ".." || p.Cause.(*api.Fault).Word != "operand" || p.Cause.(*api.Fault).More != ".." {
		t.Errorf("W1: a fault that says very much: %s", brief(fmt.Sprint(err)))
	}
	for s, must := range map[string]string{
		`print(len(f.more))`: "done: 369010",
		`print(f.Error())`:   "panic:  <count|65537>",
		`print(f.more)`:      "panic:  <count|65537>",
		`x := f.more + ""`:   "panic:  <count|369010>",
		`print(f.more == f.more, f.more[:10], map{f.more: 1}[f.more])`: "done: true append int 1",
	} {
		if got := told(walk.Text(declared+"func main() { defer func() { f := recover(); "+s+" }(); "+call+" }", 100, 10)); got != must {
			t.Errorf("00: %s: %s; must be %s", s, brief(got), must)
		}
	}
}
