package tree_test

import (
	"errors"
	"math/rand/v2"
	"slices"
	"strconv"
	"strings"
	"testing"

	"guise/api"
	"guise/tree"
)

// kindNames are the kinds in their order, from 1 on, as the chapter writes them.
var kindNames = strings.Fields(`NProgram NType NStruct NProtocol NFunc NMethodDecl NVar NField NEmbed NEmbedPointer NMethod
	NReceiver NParams NName NPointer NNone NBlock NDefine NDefineTwo NAssign NAssignTwo NIf NFor NRange NSwitch
	NTypeSwitch NCase NReturn NDefer NDo NBreak NContinue NFall NStep NInt NFloat NText NList NMap NPair NMake NNew
	NLiteral NNilOf NSelect NIndex NSlice NCall NAssert NUnary NBinary`)

func kindName(kind int) string {
	if kind < 1 || kind > len(kindNames) {
		return "N?" + strconv.Itoa(kind)
	}
	return kindNames[kind-1]
}

func kindOf(name string) int { return slices.Index(kindNames, name) + 1 }

func TestKindsHaveTheirNumbers(t *testing.T) {
	for name, kind := range map[string]int{"NProgram": api.NProgram, "NVar": api.NVar, "NMethod": api.NMethod, "NNone": api.NNone,
		"NCase": api.NCase, "NStep": api.NStep, "NPair": api.NPair, "NMake": api.NMake, "NSlice": api.NSlice, "NBinary": api.NBinary} {
		if kindOf(name) != kind {
			t.Errorf("%s is %d, not %d", name, kindOf(name), kind)
		}
	}
	if len(kindNames) != 51 || api.NBinary != 51 {
		t.Error("there are not 51 kinds")
	}
}

func node(kind int, text string, kids ...api.Node) api.Node {
	return api.Node{Kind: kind, Text: text, Kids: kids}
}

func named(s string) api.Node { return node(api.NName, s) }

func integer(s string) api.Node { return node(api.NInt, s) }

func unary(sign string, kid api.Node) api.Node { return node(api.NUnary, sign, kid) }

func binary(sign string, a, b api.Node) api.Node { return node(api.NBinary, sign, a, b) }

func selected(name string, kid api.Node) api.Node { return node(api.NSelect, name, kid) }

func called(kids ...api.Node) api.Node { return node(api.NCall, "", kids...) }

func listed(kids ...api.Node) api.Node { return node(api.NList, "", kids...) }

func mapped(kids ...api.Node) api.Node { return node(api.NMap, "", kids...) }

func pointer(name string) api.Node { return node(api.NPointer, "", named(name)) }

func fresh(kid api.Node) api.Node { return node(api.NNew, "", kid) }

func block(kids ...api.Node) api.Node { return node(api.NBlock, "", kids...) }

func params(names ...string) api.Node {
	n := node(api.NParams, "")
	for _, name := range names {
		n.Kids = append(n.Kids, named(name))
	}
	return n
}

func literal(kids ...api.Node) api.Node {
	return node(api.NLiteral, "", params(), block(kids...))
}

func branch(kids ...api.Node) api.Node { return node(api.NIf, "", kids...) }

func oneCase(list api.Node, kids ...api.Node) api.Node {
	return node(api.NCase, "", list, block(kids...))
}

func pair(text string, kids ...api.Node) api.Node { return node(api.NPair, text, kids...) }

func method(name string, count int) api.Node {
	return api.Node{Kind: api.NMethod, Text: name, N: count}
}

func none() api.Node { return node(api.NNone, "") }

func at(place int, n api.Node) api.Node {
	n.At = place
	return n
}

func times(count int, n api.Node) []api.Node { return slices.Repeat([]api.Node{n}, count) }

// within puts a tree into lists, so that it stands so many nodes deeper.
func within(lists int, n api.Node) api.Node {
	for range lists {
		n = listed(n)
	}
	return n
}

// toldTree writes a tree for the eye.
func toldTree(n api.Node) string {
	out := kindName(n.Kind)
	if n.Text != "" {
		out += " " + strconv.Quote(n.Text)
	}
	if n.N != 0 {
		out += " #" + strconv.Itoa(n.N)
	}
	if n.At != 0 {
		out += " @" + strconv.Itoa(n.At)
	}
	var kids []string
	for _, kid := range n.Kids {
		kids = append(kids, toldTree(kid))
	}
	return out + "(" + strings.Join(kids, ", ") + ")"
}

// toldError writes an error as its code, place and name; nothing, if there is none.
func toldError(t *testing.T, err error) string {
	t.Helper()
	if err == nil {
		return ""
	}
	var w *api.Wrong
	if !errors.As(err, &w) || w == nil {
		t.Fatalf("%v is no *api.Wrong", err)
	}
	if !errors.Is(err, w.Code) {
		t.Errorf("errors.Is does not find the code %d", w.Code)
	}
	return toldWrong(t, w.Code, w.At, w.Name)
}

func toldWrong(t *testing.T, code api.Errno, at int, name string) string {
	t.Helper()
	word := map[api.Errno]string{api.ErrLong: "long", api.ErrKind: "kind", api.ErrDeep: "deep", api.ErrMany: "many"}[code]
	if word == "" {
		t.Errorf("a code that tree has not: %d", code)
	}
	return word + "@" + strconv.Itoa(at) + " " + name
}

func wantRight(t *testing.T, n api.Node, want string) {
	t.Helper()
	if got := toldError(t, tree.Right(n)); got != want {
		t.Errorf("Right of %.300s: %q, must be %q", toldTree(n), got, want)
	}
}

// printed writes what Print answers; beside an error the text must be empty.
func printed(t *testing.T, n api.Node) string {
	t.Helper()
	text, err := tree.Print(n)
	if err == nil {
		return text
	}
	if text != "" {
		t.Errorf("Print of %.300s: a text beside an error", toldTree(n))
	}
	return "!" + toldError(t, err)
}

func wantPrint(t *testing.T, n api.Node, want string) {
	t.Helper()
	if got := printed(t, n); got != want {
		t.Errorf("Print of %.300s:\n%q, must be\n%q", toldTree(n), got, want)
	}
}

// dice gives the same numbers on every run.
func dice(seed uint64) *rand.Rand { return rand.New(rand.NewPCG(seed, 2)) }

func oneOf[T any](r *rand.Rand, list ...T) T { return list[r.IntN(len(list))] }
