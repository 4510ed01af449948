package types_test

import (
	"errors"
	"math/rand/v2"
	"slices"
	"strconv"
	"strings"
	"testing"

	"guise/api"
	"guise/parse"
	"guise/types"
)

func read(t *testing.T, s string) api.Node {
	t.Helper()
	n, err := parse.Program(s)
	if err != nil {
		t.Fatalf("%q: %v", s, err)
	}
	return n
}

// table is that of a program in which nothing is wrong.
func table(t *testing.T, s string) *types.Table {
	t.Helper()
	x, err := types.Make(read(t, s))
	if err != nil || x == nil {
		t.Fatalf("%s: %v", s, err)
	}
	return x
}

var codeNames = map[api.Errno]string{api.ErrLong: "long", api.ErrKind: "kind", api.ErrDeep: "deep", api.ErrMany: "many", api.ErrTwice: "twice",
	api.ErrUnknown: "unknown", api.ErrType: "type", api.ErrCycle: "cycle", api.ErrReceiver: "receiver"}

func wrongTold(code api.Errno, at int, name string) string {
	return strings.TrimSuffix("!"+codeNames[code]+" "+strconv.Itoa(at)+" "+name, " ")
}

// toldError writes an error as !code At Name.
func toldError(t *testing.T, err error) string {
	t.Helper()
	w, ok := err.(*api.Wrong)
	if !ok || w == nil {
		t.Fatalf("%#v is no *api.Wrong", err)
	}
	var found *api.Wrong
	if !errors.As(err, &found) || !errors.Is(err, w.Code) {
		t.Errorf("%v is not found by errors.Is and errors.As", err)
	}
	if codeNames[w.Code] == "" {
		t.Errorf("a code that types has not: %d", w.Code)
	}
	return wrongTold(w.Code, w.At, w.Name)
}

// made tells what Make answers: fine, or an error, beside which there is no table.
func made(t *testing.T, n api.Node) string {
	t.Helper()
	x, err := types.Make(n)
	if err == nil {
		if x == nil {
			t.Error("no table, and no error")
		}
		return "fine"
	}
	if x != nil {
		t.Errorf("beside %v stands %v", err, x)
	}
	return toldError(t, err)
}

// wrong: the text has a mark, ~, ahead of the place that is told.
func wrong(t *testing.T, marked string, code api.Errno, name string) {
	t.Helper()
	at := strings.Index(marked, "~")
	if at < 0 {
		t.Fatalf("%s: no mark", marked)
	}
	s := strings.Replace(marked, "~", "", 1)
	if got, want := made(t, read(t, s)), wrongTold(code, at, name); got != want {
		t.Errorf("Y1: %s: %s, must be %s", s, got, want)
	}
}

func fine(t *testing.T, s string) {
	t.Helper()
	if got := made(t, read(t, s)); got != "fine" {
		t.Errorf("Y1: %s: %s, must be fine", s, got)
	}
}

// lines are the texts of a list, one a line.
func lines(list string) []string {
	var out []string
	for line := range strings.SplitSeq(list, "\n") {
		if line = strings.TrimSpace(line); line != "" {
			out = append(out, line)
		}
	}
	return out
}

// allWrong: each line is a program with a mark; the name that is told stands behind the mark.
func allWrong(t *testing.T, code api.Errno, list string) {
	t.Helper()
	for _, line := range lines(list) {
		_, behind, _ := strings.Cut(line, "~")
		for _, word := range []string{"type ", "protocol ", ".*", "."} {
			behind = strings.TrimPrefix(behind, word)
		}
		if rest, method := strings.CutPrefix(behind, "func ("); method {
			_, behind, _ = strings.Cut(rest, ") ")
		}
		end := strings.IndexFunc(behind, func(r rune) bool { return strings.ContainsRune(" ;(){}=.\n", r) })
		wrong(t, line, code, behind[:end])
	}
}

func allFine(t *testing.T, list string) {
	t.Helper()
	for _, line := range lines(list) {
		fine(t, line)
	}
}

func star(pointer bool, name string) string {
	if pointer {
		return "*" + name
	}
	return name
}

func digits(list []int) string {
	out := make([]string, len(list))
	for i, n := range list {
		out[i] = strconv.Itoa(n)
	}
	return strings.Join(out, ".")
}

// foundTold writes what is found: nothing; twice; field 0.1; method 0.1 *T/2; protocol 0.1 P/2. What the chapter gives no meaning must
// be nought.
func foundTold(t *testing.T, f api.Found) string {
	t.Helper()
	method := f.Kind == api.FoundMethod || f.Kind == api.FoundProtocol
	if !method && (f.Type != "" || f.Count != 0) || f.Kind != api.FoundMethod && f.Pointer || (f.Kind == 0 || f.Kind == api.FoundTwice) && len(f.Path) > 0 {
		t.Errorf("Y3: %+v: something is not nought", f)
	}
	switch f.Kind {
	case 0:
		return "nothing"
	case api.FoundTwice:
		return "twice"
	case api.FoundField:
		return "field " + digits(f.Path)
	case api.FoundMethod:
		return "method " + digits(f.Path) + " " + star(f.Pointer, f.Type) + "/" + strconv.Itoa(f.Count)
	case api.FoundProtocol:
		return "protocol " + digits(f.Path) + " " + f.Type + "/" + strconv.Itoa(f.Count)
	}
	t.Fatalf("the kind %d", f.Kind)
	return ""
}

func methodsTold(list []api.Method) string {
	out := make([]string, len(list))
	for i, m := range list {
		out[i] = m.Name + "/" + strconv.Itoa(m.Count)
	}
	return strings.Join(out, " ")
}

// cutStar: a type's name is asked as T, of a pointer to it as *T.
func cutStar(s string) (name string, pointer bool) {
	name, pointer = strings.CutPrefix(s, "*")
	return
}

func find(t *testing.T, x *types.Table, of, what, want string) {
	t.Helper()
	name, pointer := cutStar(of)
	if got := foundTold(t, x.Find(name, pointer, what)); got != want {
		t.Errorf("Y3: Find %s %s: %s, must be %s", of, what, got, want)
	}
}

// finds: each line is a type, a name, and what it is of it.
func finds(t *testing.T, x *types.Table, list string) {
	t.Helper()
	for _, line := range lines(list) {
		words := strings.SplitN(line, " ", 3)
		find(t, x, words[0], words[1], words[2])
	}
}

func methods(t *testing.T, x *types.Table, of, want string) {
	t.Helper()
	name, pointer := cutStar(of)
	if got := methodsTold(x.Methods(name, pointer)); got != want {
		t.Errorf("Y4: Methods %s: %q, must be %q", of, got, want)
	}
}

func wants(t *testing.T, x *types.Table, protocol, want string, is bool) {
	t.Helper()
	list, has := x.Wants(protocol)
	if got := methodsTold(list); got != want || has != is {
		t.Errorf("Y4: Wants %s: %q %v, must be %q %v", protocol, got, has, want, is)
	}
}

func lacks(t *testing.T, x *types.Table, of, protocol, want string, is bool) {
	t.Helper()
	name, pointer := cutStar(of)
	if got, has := x.Lacks(name, pointer, protocol); got != want || has != is {
		t.Errorf("Y4: Lacks %s %s: %q %v, must be %q %v", of, protocol, got, has, want, is)
	}
}

// datumTold writes a datum of a zero: nil, *T, or T{..}; nothing else may be in it.
func datumTold(t *testing.T, d api.Datum) string {
	t.Helper()
	r := d.Ref
	if d.N != 0 || d.F != 0 || d.S != "" || r.Object != 0 || r.From != 0 || r.Len != 0 || r.Cap != 0 || len(r.Path) != 0 {
		t.Errorf("Y2: %+v: something is not nought", d)
	}
	if d.Kind != api.KStruct && len(d.Items) > 0 || d.Kind == api.KNil && d.Type != "" {
		t.Errorf("Y2: %+v", d)
	}
	switch d.Kind {
	case api.KNil:
		return "nil"
	case api.KPointer:
		return "*" + d.Type
	case api.KStruct:
		items := make([]string, len(d.Items))
		for i, item := range d.Items {
			items[i] = datumTold(t, item)
		}
		return d.Type + "{" + strings.Join(items, " ") + "}"
	}
	t.Fatalf("the kind %d", d.Kind)
	return ""
}

func size(d api.Datum) int {
	n := 1
	for _, item := range d.Items {
		n += size(item)
	}
	return n
}

// shapeTold writes what a table says of a name by Under, Fields, Embeds and Zero.
func shapeTold(t *testing.T, x *types.Table, name string) string {
	t.Helper()
	kind, typed := x.Under(name)
	fields, isStruct := x.Fields(name)
	embeds, too := x.Embeds(name)
	zero, has := x.Zero(name)
	if typed != (kind != 0) || isStruct != too || isStruct != has || isStruct != (kind == api.KStruct) || len(fields) != len(embeds) {
		t.Errorf("Y2: %s: %v %v %v %v %v %v %v %v", name, kind, typed, fields, isStruct, embeds, too, zero, has)
	}
	if !isStruct {
		if len(fields) > 0 || datumTold(t, zero) != "nil" {
			t.Errorf("Y2: %s: %v %v", name, fields, zero)
		}
		return strconv.Itoa(kind)
	}
	for i, e := range embeds {
		fields[i] += "/" + strconv.Itoa(e)
	}
	return strconv.Itoa(kind) + " " + strings.Join(fields, " ") + " = " + datumTold(t, zero)
}

func shape(t *testing.T, x *types.Table, name, want string) {
	t.Helper()
	if got := shapeTold(t, x, name); got != want {
		t.Errorf("Y2: %s: %s, must be %s", name, got, want)
	}
}

func listed(t *testing.T, x *types.Table, names, protocols string) {
	t.Helper()
	if got := strings.Join(x.Names(), " "); got != names {
		t.Errorf("Y2: Names: %s, must be %s", got, names)
	}
	if got := strings.Join(x.Protocols(), " "); got != protocols {
		t.Errorf("Y2: Protocols: %s, must be %s", got, protocols)
	}
}

func node(kind int, text string, kids ...api.Node) api.Node {
	return api.Node{Kind: kind, Text: text, Kids: kids}
}

func name(s string) api.Node { return node(api.NName, s) }

func program(declarations ...api.Node) api.Node { return node(api.NProgram, "", declarations...) }

// copied is a tree of its own memory.
func copied(n api.Node) api.Node {
	n.Kids = slices.Clone(n.Kids)
	for i := range n.Kids {
		n.Kids[i] = copied(n.Kids[i])
	}
	return n
}

// dice gives the same numbers on every run.
func dice(seed uint64) *rand.Rand { return rand.New(rand.NewPCG(seed, 5)) }

func oneOf[T any](r *rand.Rand, list ...T) T { return list[r.IntN(len(list))] }
