package types_test

import (
	"slices"
	"strings"
	"sync"
	"testing"
	"unsafe"

	"guise/api"
	"guise/types"
)

// roomy is a tree of its own memory, with spare room behind each list of Kids, in which something stands. Its texts are bytes of its
// own, too, that can be written over.
func roomy(n api.Node, texts *[][]byte) api.Node {
	kids := make([]api.Node, len(n.Kids), len(n.Kids)+2)
	for i, kid := range n.Kids {
		kids[i] = roomy(kid, texts)
	}
	spare := kids[len(kids):cap(kids)]
	for i := range spare {
		spare[i] = api.Node{Kind: 99, Text: "spare", At: -i}
	}
	n.Kids = kids
	if n.Text != "" {
		bytes := []byte(n.Text)
		*texts = append(*texts, bytes)
		n.Text = unsafe.String(&bytes[0], len(bytes))
	}
	return n
}

// alike holds trees against each other, with places, and with what stands behind the Kids.
func alike(a, b api.Node) bool {
	if a.Kind != b.Kind || a.Text != b.Text || a.N != b.N || a.At != b.At || cap(a.Kids) != cap(b.Kids) {
		return false
	}
	return slices.EqualFunc(a.Kids[:cap(a.Kids)], b.Kids[:cap(b.Kids)], func(x, y api.Node) bool {
		return x.Kind == y.Kind && (x.Kind == 99 && x.Text == y.Text && x.At == y.At || alike(x, y))
	})
}

// wipe overwrites a tree, its spare room too.
func wipe(n *api.Node) {
	kids := n.Kids[:cap(n.Kids)]
	for i := range kids {
		wipe(&kids[i])
	}
	*n = api.Node{Kind: api.NFall, Text: "wiped", N: 7, At: -7}
}

// What is handed in is not changed, nor what stands behind it; of a program, of a wrong one, of no program.
func TestNothingIsChanged(t *testing.T) {
	g := growing(5)
	trees := []api.Node{read(t, examples), {}, node(api.NInt, "1"), program(node(api.NInt, "1"))}
	for i, w := range things {
		s, _ := w.numbered(i)
		trees = append(trees, read(t, withoutMark(s)))
	}
	for range 60 {
		n := g.program()
		trees = append(trees, copied(n))
		g.spoil(&n)
		trees = append(trees, n)
	}
	for _, n := range trees {
		var texts [][]byte
		n = roomy(n, &texts)
		was := roomy(n, &texts)
		first := made(t, n)
		if x, _ := types.Make(n); x != nil {
			everything(t, x, []string{"A", "B", "P", "f", "x", "fault", "error", "any", "int"})
		}
		if !alike(n, was) {
			t.Fatalf("Y5: %s: what was handed in is another tree", first)
		}
		if again := made(t, n); again != first {
			t.Errorf("a second time: %s, must be %s", again, first)
		}
	}
}

// What is handed in is not kept: the table stays, whatever becomes of the tree and of its texts; an error too.
func TestNothingIsKept(t *testing.T) {
	g := growing(6)
	trees := []api.Node{read(t, examples), read(t, "protocol P { Q; error }; protocol Q { R; q(1) }; protocol R { r(2) }; type T struct { .P; .*T; x }; func (t *T) m(a) { }")}
	for len(trees) < 40 {
		if n := g.program(); errorOf(n) == nil {
			trees = append(trees, n)
		}
	}
	for _, n := range trees {
		spoken := modelOf(n).spoken()
		x, err := types.Make(n)
		if err != nil {
			t.Fatal(err)
		}
		want := everything(t, x, spoken)
		var texts [][]byte
		other := roomy(n, &texts)
		y, _ := types.Make(other)
		wipe(&other)
		for _, bytes := range texts {
			for i := range bytes {
				bytes[i] = '?'
			}
		}
		if got := everything(t, y, spoken); got != want {
			t.Errorf("Y5: something of the tree is kept:\n%s", text(n))
		}
	}
	for i, w := range things {
		s, _ := w.numbered(i)
		var texts [][]byte
		n := roomy(read(t, withoutMark(s)), &texts)
		want, err := made(t, n), errorOf(n)
		for _, bytes := range texts {
			for i := range bytes {
				bytes[i] = '?'
			}
		}
		if got := toldError(t, err); got != want {
			t.Errorf("Y5: %s, was %s", got, want)
		}
	}
}

// over writes over a list, its spare room too.
func over[T any](list []T, with T) {
	list = list[:cap(list)]
	for i := range list {
		list[i] = with
	}
}

// overDatum writes over all that a datum holds.
func overDatum(d *api.Datum) {
	items := d.Items[:cap(d.Items)]
	for i := range items {
		overDatum(&items[i])
	}
	over(d.Ref.Path, -9)
	*d = api.Datum{Kind: -9, Type: "other"}
}

// overAll writes over whatever a table answers of some names.
func overAll(x *types.Table, spoken []string) {
	over(x.Names(), "other")
	over(x.Protocols(), "other")
	for _, of := range spoken {
		fields, _ := x.Fields(of)
		over(fields, "other")
		embeds, _ := x.Embeds(of)
		over(embeds, -9)
		zero, _ := x.Zero(of)
		overDatum(&zero)
		list, _ := x.Wants(of)
		over(list, api.Method{Name: "other", Count: -9})
		for _, pointer := range []bool{false, true} {
			over(x.Methods(of, pointer), api.Method{Name: "other", Count: -9})
			for _, what := range spoken {
				over(x.Find(of, pointer, what).Path, -9)
			}
		}
	}
}

// Answers are new memory: who writes into them changes neither the table nor an answer given out before.
func TestAnswersAreNew(t *testing.T) {
	g := growing(7)
	trees := []api.Node{read(t, examples)}
	for len(trees) < 30 {
		if n := g.program(); errorOf(n) == nil {
			trees = append(trees, n)
		}
	}
	for _, n := range trees {
		spoken := modelOf(n).spoken()
		x, _ := types.Make(n)
		want := everything(t, x, spoken)
		names, protocols := x.Names(), x.Protocols()
		wasNames, wasProtocols := slices.Clone(names), slices.Clone(protocols)
		overAll(x, spoken)
		if got := everything(t, x, spoken); got != want {
			t.Fatalf("Y5: an answer is part of the table:\n%s", text(n))
		}
		if !slices.Equal(names, wasNames) || !slices.Equal(protocols, wasProtocols) {
			t.Errorf("Y5: answers share memory: %v, %v", names, protocols)
		}
	}
	one, two := errorOf(read(t, "type int = int")).(*api.Wrong), errorOf(read(t, "type int = int")).(*api.Wrong)
	one.Name, one.Code = "other", api.ErrMany
	if two.Name != "int" || two.Code != api.ErrTwice {
		t.Error("Y5: errors share memory")
	}
}

// overText writes over the bytes of texts that an answer has: nobody else has them.
func overText(texts ...string) {
	for _, s := range texts {
		if s != "" {
			clear(unsafe.Slice(unsafe.StringData(s), len(s)))
		}
	}
}

func overDatumTexts(d api.Datum) {
	overText(d.Type)
	for _, item := range d.Items {
		overDatumTexts(item)
	}
}

func overMethods(list []api.Method) {
	for _, m := range list {
		overText(m.Name)
	}
}

// overAllTexts writes over the texts of whatever a table answers of some names, which are handed in as copies.
func overAllTexts(t *testing.T, x *types.Table, spoken []string) {
	t.Helper()
	overText(x.Names()...)
	overText(x.Protocols()...)
	for _, name := range spoken {
		of := strings.Clone(name)
		fields, _ := x.Fields(of)
		overText(fields...)
		zero, _ := x.Zero(of)
		overDatumTexts(zero)
		list, _ := x.Wants(of)
		overMethods(list)
		for _, pointer := range []bool{false, true} {
			overMethods(x.Methods(of, pointer))
			for _, other := range spoken {
				what := strings.Clone(other)
				overText(x.Find(of, pointer, what).Type)
				lacking, _ := x.Lacks(of, pointer, what)
				overText(lacking)
				if of != name || what != other {
					t.Fatalf("Y5: an answer of %q and %q shares memory with what was handed in", name, other)
				}
			}
		}
	}
}

// The texts of an answer are new, too: neither the table's, nor those that were handed in.
func TestTextsOfAnswersAreNew(t *testing.T) {
	g := growing(9)
	trees := []api.Node{read(t, examples)}
	for len(trees) < 20 {
		if n := g.program(); errorOf(n) == nil {
			trees = append(trees, n)
		}
	}
	for _, n := range trees {
		spoken := append(modelOf(n).spoken(), "fault", "error", "any", "int", "Error", "nobody")
		x, _ := types.Make(n)
		want := everything(t, x, spoken)
		overAllTexts(t, x, spoken)
		if got := everything(t, x, spoken); got != want {
			t.Fatalf("Y5: a text of an answer is the table's:\n%s", text(n))
		}
	}
}

// No two lists of one answer share memory: the zeros within a zero.
func TestListsOfOneAnswer(t *testing.T) {
	x := table(t, "type A struct { .B; .C; .*D }; type B struct { .D; x }; type C struct { .D; y; z }; type D struct { a; b }")
	want := "A{B{D{nil nil} nil} C{D{nil nil} nil nil} *D}"
	for i, left := range []string{"A{*other C{D{nil nil} nil nil} *D}", "A{B{D{nil nil} nil} *other *D}"} {
		zero, _ := x.Zero("A")
		if got := datumTold(t, zero); got != want {
			t.Fatal(got)
		}
		overDatum(&zero.Items[i])
		zero.Items[i] = api.Datum{Kind: api.KPointer, Type: "other"}
		if got := datumTold(t, zero); got != left {
			t.Errorf("Y5: %s, must be %s", got, left)
		}
	}
	// What one zero has is not what the next has.
	one, _ := x.Zero("A")
	two, _ := x.Zero("A")
	overDatum(&one)
	if got := datumTold(t, two); got != want {
		t.Errorf("Y5: %s", got)
	}
}

// A table may be asked by several at one time; and tables may be made at one time of one tree.
func TestSeveralAtOneTime(t *testing.T) {
	g := growing(8)
	trees := []api.Node{read(t, examples)}
	for len(trees) < 10 {
		if n := g.program(); errorOf(n) == nil {
			trees = append(trees, n)
		}
	}
	for _, n := range trees {
		spoken := modelOf(n).spoken()
		x, _ := types.Make(n)
		want := everything(t, x, spoken)
		answers := make([]string, 8)
		var all sync.WaitGroup
		for i := range answers {
			all.Go(func() {
				y := x
				if i%2 == 1 {
					y, _ = types.Make(n)
				}
				overAll(y, spoken)
				answers[i] = everything(t, y, spoken)
			})
		}
		all.Wait()
		for _, got := range answers {
			if got != want {
				t.Fatalf("Y5: asked by several another answer:\n%s", text(n))
			}
		}
	}
}

// An error that is none is nil itself.
func TestNoErrorIsNil(t *testing.T) {
	for _, s := range begun {
		if _, err := types.Make(read(t, s)); err != nil {
			t.Errorf("%#v", err)
		}
	}
}

// The answers do not hang on the order of a map: asked again and again, and of tables made anew, they are the same.
func TestTheSameAgain(t *testing.T) {
	n := read(t, "protocol P { z(0); a(0); f(0); k(0); b(0); Q }; protocol Q { f(0); y(0); c(0); e(0) }; type T struct { .P; .Q; .S }; type S struct { .*T; x }; func (s S) m() { }; func (s *S) n() { }; func (s S) o() { }; type U struct { .Q }; protocol Bad { Worse; b(0); a(0); c(0); d(0); e(0) }; protocol Worse { e(1); d(1); c(1); b(1); a(1) }")
	spoken := []string{"P", "Q", "T", "S", "U", "f", "z", "m", "n", "x", "fault"}
	for range 50 {
		if got := made(t, n); got != wrongTold(api.ErrTwice, n.Kids[8].At, "a") {
			t.Fatalf("Y1: %s", got)
		}
	}
	n.Kids = n.Kids[:8]
	x, err := types.Make(n)
	if err != nil {
		t.Fatal(err)
	}
	want := everything(t, x, spoken)
	for range 50 {
		y, _ := types.Make(n)
		if everything(t, x, spoken) != want || everything(t, y, spoken) != want {
			t.Fatal("P4: another time another answer")
		}
	}
}
