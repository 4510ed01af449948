package assert_test

import (
	"errors"
	"fmt"
	"math/rand/v2"
	"strconv"
	"strings"
	"testing"

	"guise/api"
	"guise/assert"
	"guise/parse"
	"guise/types"
	"guise/value"
)

// table is that of a program in which nothing is wrong.
func table(t *testing.T, text string) *types.Table {
	t.Helper()
	n, err := parse.Program(text)
	if err != nil {
		t.Fatalf("%.200s: %v", text, err)
	}
	x, err := types.Make(n)
	if err != nil {
		t.Fatalf("%.200s: %v", text, err)
	}
	return x
}

// kindNames are the kinds' own names, by their numbers.
var kindNames = []string{"", "bool", "int", "float", "text", "list", "map", "func", "", ""}

var none = api.Datum{}

func integer(n int) api.Datum { return api.Datum{Kind: api.KInt, Type: "int", N: n} }

func text(s string) api.Datum { return api.Datum{Kind: api.KText, Type: "text", S: s} }

// typed is a datum of a kind and a type, in which nothing stands.
func typed(kind int, name string) api.Datum { return api.Datum{Kind: kind, Type: name} }

func record(name string, items ...api.Datum) api.Datum {
	return api.Datum{Kind: api.KStruct, Type: name, Items: items}
}

func pointer(name string, object int, path ...int) api.Datum {
	return api.Datum{Kind: api.KPointer, Type: name, Ref: api.Ref{Object: object, Path: path}}
}

func nilOf(name string) api.Datum { return pointer(name, 0) }

func zero(t *testing.T, x *types.Table, name string) api.Datum {
	t.Helper()
	d, is := x.Zero(name)
	if !is {
		t.Fatalf("there is no struct type %s", name)
	}
	return d
}

// good writes a datum with all that is in it.
func good(d api.Datum) string { return fmt.Sprintf("%+v", d) }

func brief(d api.Datum) string {
	if s := good(d); len(s) > 300 {
		return s[:300] + ".."
	}
	return good(d)
}

// told writes an error: it is nil itself, or a *api.Fault in which nothing is wrapped.
func told(t *testing.T, err error) string {
	t.Helper()
	if err == nil {
		return ""
	}
	f, is := err.(*api.Fault)
	if !is || f == nil {
		t.Fatalf("P2: %#v is no *api.Fault", err)
	}
	var found *api.Fault
	var wrong *api.Wrong
	if !errors.As(err, &found) || found != f || errors.As(err, &wrong) || errors.Unwrap(err) != nil {
		t.Errorf("P2: %#v is no fault by itself", err)
	}
	return f.Word + "|" + f.More
}

// cutStar: a type is asked for as T, a pointer to it as *T.
func cutStar(s string) (name string, star bool) {
	name, star = strings.CutPrefix(s, "*")
	return
}

// must writes what Must answers: `yes`, or the fault's more; and holds Holds against it.
func must(t *testing.T, x *types.Table, d api.Datum, want string, star bool) string {
	t.Helper()
	out, err := assert.Must(x, d, want, star)
	if assert.Holds(x, d, want, star) != (err == nil) {
		t.Errorf("A1: Holds(%s, %q, %v) is %v; Must: %v", brief(d), want, star, err != nil, err)
	}
	if err == nil {
		if !value.Same(out, d) {
			t.Errorf("A2: Must(%s, %q, %v): %s", brief(d), want, star, brief(out))
		}
		return "yes"
	}
	if !value.Same(out, none) {
		t.Errorf("A2: beside %v stands %s", err, brief(out))
	}
	more, is := strings.CutPrefix(told(t, err), "conversion|")
	if !is {
		t.Errorf("A2: Must(%s, %q, %v): %v is no conversion", brief(d), want, star, err)
	}
	return more
}

func wantMust(t *testing.T, x *types.Table, d api.Datum, want, answer string) {
	t.Helper()
	name, star := cutStar(want)
	if got := must(t, x, d, name, star); got != answer {
		t.Errorf("A2: Must(%s, %s): %q, must be %q", brief(d), want, got, answer)
	}
}

// holding: of each of these wants d says yes, or no, as it stands ahead of them.
func holding(t *testing.T, x *types.Table, d api.Datum, yes, no string) {
	t.Helper()
	for i, list := range []string{yes, no} {
		for want := range strings.FieldsSeq(list) {
			name, star := cutStar(want)
			if is := assert.Holds(x, d, name, star); is != (i == 0) {
				t.Errorf("A1: Holds(%s, %s): %v", brief(d), want, is)
			}
			must(t, x, d, name, star)
		}
	}
}

// cases reads rows of cases as they stand in a program: `int, *A | nil | any`; nothing between two bars: a row without cases.
func cases(s string) [][]assert.Case {
	if s == "" {
		return nil
	}
	var rows [][]assert.Case
	for line := range strings.SplitSeq(s, "|") {
		var row []assert.Case
		for want := range strings.SplitSeq(line, ",") {
			switch want = strings.TrimSpace(want); want {
			case "":
			case "nil":
				row = append(row, assert.Case{Nil: true})
			default:
				name, star := cutStar(want)
				row = append(row, assert.Case{Want: name, Pointer: star})
			}
		}
		rows = append(rows, row)
	}
	return rows
}

func wantChoose(t *testing.T, x *types.Table, d api.Datum, rows string, answer int) {
	t.Helper()
	if got := assert.Choose(x, d, cases(rows)); got != answer {
		t.Errorf("A3: Choose(%s, %s): %d, must be %d", brief(d), rows, got, answer)
	}
}

func digits(list []int) string {
	out := make([]string, len(list))
	for i, n := range list {
		out[i] = strconv.Itoa(n)
	}
	return strings.Join(out, ".")
}

func starred(star bool, name string) string {
	if star {
		return "*" + name
	}
	return name
}

// found writes what is found: field 0.1; method 0.1 *T/2; protocol 0.1 P/2; nothing; twice.
func found(f api.Found) string {
	switch f.Kind {
	case 0:
		return "nothing"
	case api.FoundField:
		return "field " + digits(f.Path)
	case api.FoundMethod:
		return "method " + digits(f.Path) + " " + starred(f.Pointer, f.Type) + "/" + strconv.Itoa(f.Count)
	case api.FoundProtocol:
		return "protocol " + digits(f.Path) + " " + f.Type + "/" + strconv.Itoa(f.Count)
	}
	return "twice"
}

// picked writes what Select answers: what is found, just as Find tells it, or the fault.
func picked(t *testing.T, x *types.Table, d api.Datum, name string) string {
	t.Helper()
	f, err := assert.Select(x, d, name)
	if err != nil {
		if f.Kind != 0 || f.Path != nil || f.Type != "" || f.Pointer || f.Count != 0 {
			t.Errorf("A4: beside %v stands %+v", err, f)
		}
		return told(t, err)
	}
	if want := x.Find(d.Type, d.Kind == api.KPointer, name); fmt.Sprintf("%+v", f) != fmt.Sprintf("%+v", want) {
		t.Errorf("A4: Select(%s, %s): %+v, Find tells %+v", brief(d), name, f, want)
	}
	return found(f)
}

func wantSelect(t *testing.T, x *types.Table, d api.Datum, name, answer string) {
	t.Helper()
	if got := picked(t, x, d, name); got != answer {
		t.Errorf("A4: Select(%s, %q): %q, must be %q", brief(d), name, got, answer)
	}
}

// with is d with another item at a path of items.
func with(d api.Datum, item api.Datum, path ...int) api.Datum {
	if len(path) == 0 {
		return item
	}
	d.Items = append([]api.Datum(nil), d.Items...)
	d.Items[path[0]] = with(d.Items[path[0]], item, path[1:]...)
	return d
}

// within lays d into structs within one another, so many of them.
func within(deep int, d api.Datum) api.Datum {
	for range deep {
		d = record("A", d)
	}
	return d
}

// dice gives the same numbers on every run.
func dice(seed uint64) *rand.Rand { return rand.New(rand.NewPCG(seed, 8)) }

func oneOf[T any](r *rand.Rand, list ...T) T { return list[r.IntN(len(list))] }
