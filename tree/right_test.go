package tree_test

import (
	"errors"
	"slices"
	"strings"
	"testing"
	"unsafe"

	"guise/api"
	"guise/tree"
)

func TestRightExamples(t *testing.T) {
	wantRight(t, at(3, integer("01")), "kind@3 01")
	wantRight(t, called(at(4, named("func"))), "kind@4 func")
	wantRight(t, node(api.NSlice, "", named("l"), none(), none(), at(5, integer("3"))), "kind@5 3")
	wantRight(t, at(6, params(slices.Repeat([]string{"a"}, 13)...)), "many@6 ")
	wantRight(t, node(api.NStruct, "T", at(7, method("m", 0))), "kind@7 m")
}

// Each limit just kept, and just passed.
func TestLimits(t *testing.T) {
	fields, wishes := times(30, node(api.NField, "f")), times(60, method("m", 12))
	name, text := strings.Repeat("n", 40), strings.Repeat("t", 65536)
	for _, x := range []struct {
		n    api.Node
		want string
	}{
		{node(api.NStruct, "T", fields...), ""},
		{at(9, node(api.NStruct, "T", append(fields, node(api.NEmbed, "S"))...)), "many@9 T"},
		{node(api.NProtocol, "P", wishes...), ""},
		{at(9, node(api.NProtocol, "P", append(wishes, node(api.NEmbed, "Q"))...)), "many@9 P"},
		{params(slices.Repeat([]string{"a"}, 12)...), ""},
		{node(api.NLiteral, "", at(9, params(slices.Repeat([]string{"a"}, 13)...)), block()), "many@9 "},
		{method("m", 0), ""},
		{method("m", 12), ""},
		{at(9, method("m", 13)), "kind@9 m"},
		{at(9, method("m", -1)), "kind@9 m"},
		{named(name), ""},
		{at(9, named(name+"n")), "kind@9 "},
		{node(api.NText, text), ""},
		{at(9, node(api.NText, text+"t")), "kind@9 "},
		{integer("9223372036854775807"), ""},
		{at(9, integer("9223372036854775808")), "kind@9 9223372036854775808"},
		{node(api.NFloat, "1234567890.12345"), ""},
		{at(9, node(api.NFloat, "1234567890.123456")), "kind@9 1234567890.123456"},
		{at(9, node(api.NInt, strings.Repeat("1", 40))), "kind@9 " + strings.Repeat("1", 40)},
		{at(9, node(api.NInt, strings.Repeat("1", 41))), "kind@9 "},
		{within(59, integer("1")), ""},
		{within(60, at(9, integer("1"))), "deep@9 1"},
		{listed(times(19999, integer("1"))...), ""},
		{listed(append(times(19999, integer("1")), at(9, named("x")))...), "many@9 x"},
		{listed(times(19999, named("_"))...), "kind@0 _"},
	} {
		wantRight(t, x.n, x.want)
	}
}

// Of several things that are wrong the first node's is told, and of that the first of the list.
func TestRightOrder(t *testing.T) {
	bad := func(place int) api.Node { return at(place, named("_")) }
	manyBad := listed(append(times(19999, integer("1")), at(9, node(0, "bad", none())))...)
	for i, x := range []struct {
		n    api.Node
		want string
	}{
		{manyBad, "many@9 bad"},
		{within(59, listed(times(19939, integer("1"))...)), "deep@0 1"},
		{within(58, listed(append(times(19941, integer("1")), at(9, listed(integer("1"))))...)), "many@9 "},
		{within(58, listed(append(times(19940, integer("1")), listed(at(9, integer("1"))))...)), "many@9 1"},
		{within(60, at(9, node(0, "bad"))), "deep@9 bad"},
		{within(58, at(9, node(99, "bad", bad(1)))), "kind@9 bad"},
		{binary("+", bad(1), bad(2)), "kind@1 _"},
		{binary("+", listed(integer("1"), bad(1)), bad(2)), "kind@1 _"},
		{at(3, node(api.NBinary, "+", bad(1))), "kind@3 +"},
		{at(3, binary("?", bad(1), bad(2))), "kind@3 ?"},
		{at(3, node(api.NStruct, "_", times(31, bad(1))...)), "kind@3 _"},
		{at(3, node(api.NStruct, "T", times(31, bad(1))...)), "many@3 T"},
		{node(api.NSlice, "", named("l"), none(), at(4, none()), bad(5)), "kind@5 _"},
		{node(api.NSlice, "", named("l"), none(), bad(4), at(5, integer("1"))), "kind@4 _"},
		{node(api.NSlice, "", named("l"), none(), none(), at(5, listed(bad(6)))), "kind@5 "},
		{at(3, node(api.NSlice, "", named("l"), none(), none())), "kind@3 "},
		{node(api.NSlice, "", at(4, none()), none(), none(), none()), "kind@4 "},
		{node(api.NSlice, "", named("l"), none(), integer("1"), none()), ""},
		{node(api.NSlice, "", named("l"), none(), integer("1"), integer("2")), ""},
	} {
		if got := toldError(t, tree.Right(x.n)); got != x.want {
			t.Errorf("%d: %q, must be %q", i, got, x.want)
		}
	}
}

func TestSecondDefault(t *testing.T) {
	bad := at(7, node(api.NFall, "bad"))
	plain, other := oneCase(none()), at(5, oneCase(none()))
	of := oneCase(listed(integer("1")))
	for _, head := range [][]api.Node{{none()}, {none(), named("x")}} {
		kind := []int{api.NSwitch, api.NTypeSwitch}[len(head)-1]
		if kind == api.NTypeSwitch {
			of = oneCase(listed(pointer("T"), named("nil")))
		}
		for _, x := range []struct {
			cases []api.Node
			want  string
		}{
			{nil, ""},
			{[]api.Node{plain}, ""},
			{[]api.Node{of, plain, of}, ""},
			{[]api.Node{plain, of, other, plain}, "kind@5 "},
			{[]api.Node{oneCase(none(), bad), other}, "kind@7 bad"},
			{[]api.Node{plain, at(5, oneCase(none(), bad))}, "kind@5 "},
			{[]api.Node{plain, at(6, node(api.NCase, "", none()))}, "kind@6 "},
			{[]api.Node{at(6, node(api.NCase, "")), plain}, "kind@6 "},
			{[]api.Node{plain, at(6, named("x"))}, "kind@6 x"},
			{[]api.Node{at(6, oneCase(at(8, listed())))}, "kind@8 "},
		} {
			wantRight(t, node(kind, "", append(slices.Clone(head), x.cases...)...), x.want)
		}
	}
	wantRight(t, at(3, node(api.NSwitch, "")), "kind@3 ")
	wantRight(t, at(3, node(api.NTypeSwitch, "", none())), "kind@3 ")
	inner := node(api.NSwitch, "", none(), plain)
	wantRight(t, node(api.NSwitch, "", none(), oneCase(none(), inner, inner)), "")
}

// A tree's own node is not asked what it stands in.
func TestOwnNodes(t *testing.T) {
	for _, word := range strings.Fields("true false nil map any func a") {
		wantRight(t, named(word), "")
	}
	for _, word := range strings.Fields("_ in type struct protocol 1 + a.b") {
		wantRight(t, at(2, named(word)), "kind@2 "+word)
	}
	one := integer("1")
	wantRight(t, pair("", one, one), "")
	wantRight(t, pair("f", one), "")
	wantRight(t, at(2, pair("", one)), "kind@2 ")
	wantRight(t, at(2, pair("f", one, one)), "kind@2 f")
	wantRight(t, at(2, pair("_", one)), "kind@2 _")
	wantRight(t, mapped(at(2, pair("f", one))), "kind@2 f")
	wantRight(t, node(api.NMake, "T", at(2, pair("", one, one))), "kind@2 ")
	for _, kid := range []api.Node{pointer("T"), named("map"), named("func"), named("any")} {
		wantRight(t, oneCase(listed(named("a"), kid, named("nil"))), "")
		wantRight(t, oneCase(listed(at(2, one), kid)), "kind@2 1")
		wantRight(t, listed(at(2, kid)), "kind@2 "+kid.Text)
		wantRight(t, node(api.NSwitch, "", none(), oneCase(listed(at(2, kid)))), "kind@2 "+kid.Text)
		wantRight(t, node(api.NTypeSwitch, "", none(), one, oneCase(listed(kid))), "")
	}
	wantRight(t, oneCase(listed(one, named("nil"), named("true"))), "")
	wantRight(t, oneCase(listed(pointer("T"), at(2, named("true")))), "kind@2 true")
	wantRight(t, oneCase(at(2, called(named("map")))), "kind@2 ")
	wantRight(t, node(api.NTypeSwitch, "", none(), one, oneCase(listed(at(2, one)))), "kind@2 1")
	for _, kind := range []int{-1 << 63, -1, 0, 52, 64, 65, 128, 1<<63 - 1} {
		wantRight(t, at(2, node(kind, "x")), "kind@2 x")
		wantRight(t, listed(at(2, node(kind, "x"))), "kind@2 x")
	}
}

// The At of a node is any number.
func TestAnyPlace(t *testing.T) {
	for _, place := range []int{-1 << 63, -1, 1<<63 - 1} {
		wantRight(t, at(place, named("a")), "")
		err := tree.Right(at(place, named("_")))
		var w *api.Wrong
		if !errors.As(err, &w) || w.At != place {
			t.Error("the place is not told:", err)
		}
	}
}

func TestErrorsAreNewAndNilItself(t *testing.T) {
	long := node(api.NText, strings.Repeat("a", 60000))
	for _, n := range []api.Node{named("_"), within(60, integer("1")), params(slices.Repeat([]string{"a"}, 13)...)} {
		a, b := tree.Right(n), tree.Right(n)
		if a == nil || b == nil || a == b {
			t.Error("Right: the errors are not new ones")
		}
		if toldError(t, a) == "" || "!"+toldError(t, a) != printed(t, n) {
			t.Error("Print does not tell Right's error")
		}
	}
	_, a := tree.Print(long)
	_, b := tree.Print(long)
	if a == nil || a == b {
		t.Error("Print: the errors are not new ones")
	}
	if err := tree.Right(named("a")); err != nil {
		t.Error("an error behind the interface:", err)
	}
	if _, err := tree.Print(named("a")); err != nil {
		t.Error("an error behind the interface:", err)
	}
}

func TestAnswersAreNewMemory(t *testing.T) {
	text := strings.Repeat("n", 20) + "-"
	var w *api.Wrong
	errors.As(tree.Right(named(text)), &w)
	if w.Name != text || shares(text, w.Name) {
		t.Error("the error's name is a piece of the tree")
	}
	name := strings.Repeat("n", 20)
	if printed, _ := tree.Print(named(name)); printed != name || shares(name, printed) {
		t.Error("what Print tells is a piece of the tree")
	}
	for _, n := range tree.All(named(name)) {
		if n.Text != name || shares(name, n.Text) {
			t.Error("what All tells is a piece of the tree")
		}
	}
}

// shares: whether part begins within the memory of whole.
func shares(whole, part string) bool {
	from := uintptr(unsafe.Pointer(unsafe.StringData(whole)))
	begin := uintptr(unsafe.Pointer(unsafe.StringData(part)))
	return from <= begin && begin < from+uintptr(len(whole))
}
