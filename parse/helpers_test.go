package parse_test

import (
	"errors"
	"math/rand/v2"
	"strconv"
	"strings"
	"testing"

	"guise/api"
	"guise/parse"
)

// kindNames are the kinds in their order, from 1 on, without the N of their names.
var kindNames = strings.Fields(`Program Type Struct Protocol Func MethodDecl Var Field Embed EmbedPointer Method Receiver
	Params Name Pointer None Block Define DefineTwo Assign AssignTwo If For Range Switch TypeSwitch Case Return Defer Do
	Break Continue Fall Step Int Float Text List Map Pair Make New Literal NilOf Select Index Slice Call Assert Unary Binary`)

func TestKindsHaveTheirNames(t *testing.T) {
	for kind, want := range map[int]string{api.NProgram: "Program", api.NName: "Name", api.NBlock: "Block", api.NCase: "Case",
		api.NStep: "Step", api.NMake: "Make", api.NSlice: "Slice", api.NBinary: "Binary"} {
		if kindNames[kind-1] != want {
			t.Errorf("%d is called %s", kind, kindNames[kind-1])
		}
	}
}

// told writes a tree as Kind:Text#N@At(Kids), without Text, N and Kids that there are not.
func told(n api.Node) string {
	out := "?" + strconv.Itoa(n.Kind)
	if n.Kind >= 1 && n.Kind <= len(kindNames) {
		out = kindNames[n.Kind-1]
	}
	if n.Text != "" {
		out += ":" + n.Text
	}
	if n.N != 0 {
		out += "#" + strconv.Itoa(n.N)
	}
	out += "@" + strconv.Itoa(n.At)
	if len(n.Kids) == 0 {
		return out
	}
	var kids []string
	for _, kid := range n.Kids {
		kids = append(kids, told(kid))
	}
	return out + "(" + strings.Join(kids, " ") + ")"
}

// form is one of the three things that a text may be read as.
type form struct {
	name string
	read func(string) (api.Node, error)
}

var (
	program    = form{"Program", parse.Program}
	statements = form{"Statements", parse.Statements}
	expression = form{"Expr", parse.Expr}
	forms      = []form{program, statements, expression}
)

// codes are the errors that a text may have.
var codes = map[api.Errno]string{api.ErrByte: "byte", api.ErrQuote: "quote", api.ErrNumber: "number", api.ErrLong: "long",
	api.ErrKind: "kind", api.ErrDeep: "deep", api.ErrMany: "many", api.ErrToken: "token"}

// toldError writes an error as !code@At Name.
func toldError(t *testing.T, err error) string {
	t.Helper()
	w, ok := err.(*api.Wrong)
	if !ok || w == nil {
		t.Fatalf("%#v is no *api.Wrong", err)
	}
	var found *api.Wrong
	if !errors.As(err, &found) || !errors.Is(err, w.Code) {
		t.Errorf("%v is not found by errors.Is and errors.As", err)
	}
	if codes[w.Code] == "" {
		t.Errorf("a code that parse has not: %d", w.Code)
	}
	return strings.TrimSuffix("!"+codes[w.Code]+"@"+strconv.Itoa(w.At)+" "+w.Name, " ")
}

// wrongAt is what toldError writes of an ErrToken.
func wrongAt(at int, name string) string {
	return strings.TrimSuffix("!token@"+strconv.Itoa(at)+" "+name, " ")
}

// told tells what a text is read as: a tree, or an error, beside which there is no tree.
func (f form) told(t *testing.T, s string) string {
	t.Helper()
	n, err := f.read(s)
	if err == nil {
		return told(n)
	}
	if n.Kind != 0 || n.Text != "" || n.N != 0 || n.At != 0 || n.Kids != nil {
		t.Errorf("%s(%.200q): beside an error stands %s", f.name, s, told(n))
	}
	return toldError(t, err)
}

func (f form) want(t *testing.T, s, want string) {
	t.Helper()
	if got := f.told(t, s); got != want {
		t.Errorf("%s(%.200q):\n%.2000s, must be\n%.2000s", f.name, s, got, want)
	}
}

// dice gives the same numbers on every run.
func dice(seed uint64) *rand.Rand { return rand.New(rand.NewPCG(seed, 3)) }

func oneOf[T any](r *rand.Rand, list ...T) T { return list[r.IntN(len(list))] }
