package dispatch_test

import (
	"errors"
	"fmt"
	"math/rand/v2"
	"slices"
	"strconv"
	"strings"
	"testing"

	"guise/api"
	"guise/dispatch"
	"guise/parse"
	"guise/types"
)

// declared is chapter 5's own program, with a protocol of one method.
const declared = `type A struct { x }
func (a A) f() { }
func (a *A) g(u) { }
type B struct { .A
.*C }
type C struct { x
y }
func (c *C) h() { }
type D struct { .B
f }
protocol P { f(0)
g(1) }
type E struct { .P }
type K = list
func (k K) n() { }
protocol F { f(0) }
func main() { }`

// other has names of declared, with other answers.
const other = `type A struct { f
x }
func (a *A) g() { }
type B struct { x
.A }
func (b B) f() { }
protocol P { g(0) }
type K = map
func (k K) f() { }
func main() { }`

func table(t testing.TB, source string) *types.Table {
	t.Helper()
	n, err := parse.Program(source)
	must(t, err)
	out, err := types.Make(n)
	must(t, err)
	return out
}

func must(t testing.TB, err error) {
	t.Helper()
	if err != nil {
		t.Fatalf("%v, must be nothing", err)
	}
}

// asked is what a cache and a list of questions are asked alike.
type asked interface {
	Find(name string, pointer bool, what string) api.Found
	Meets(name string, pointer bool, protocol string) bool
	Hits() int
	Misses() int
	Kept() int
}

func cache(t testing.TB, source string, room int) *dispatch.Cache {
	return over(t, table(t, source), room)
}

func over(t testing.TB, x *types.Table, room int) *dispatch.Cache {
	t.Helper()
	c, err := dispatch.New(x, room)
	must(t, err)
	if c == nil {
		t.Fatalf("D1: no cache of the room %d", room)
	}
	return c
}

// question is one call.
type question struct {
	meets   bool
	name    string
	pointer bool
	what    string
}

func find(name string, pointer bool, what string) question {
	return question{false, name, pointer, what}
}

func meet(name string, pointer bool, what string) question {
	return question{true, name, pointer, what}
}

func (q question) String() string {
	kind := "Find"
	if q.meets {
		kind = "Meets"
	}
	return fmt.Sprintf("%s(%.40q, %v, %.40q)", kind, q.name, q.pointer, q.what)
}

// of asks it, and writes what is answered.
func (q question) of(c asked) string {
	if q.meets {
		return strconv.FormatBool(c.Meets(q.name, q.pointer, q.what))
	}
	return said(c.Find(q.name, q.pointer, q.what))
}

// by is the answer of the table itself.
func (q question) by(x *types.Table) string {
	if q.meets {
		_, lacking := x.Lacks(q.name, q.pointer, q.what)
		return strconv.FormatBool(!lacking)
	}
	return said(x.Find(q.name, q.pointer, q.what))
}

func said(f api.Found) string {
	return fmt.Sprintf("%d %v %q %v %d", f.Kind, append([]int{}, f.Path...), f.Type, f.Pointer, f.Count)
}

func counts(c asked) string { return fmt.Sprintf("%d %d %d", c.Hits(), c.Misses(), c.Kept()) }

func is(t testing.TB, what, got, want string) {
	t.Helper()
	if got != want {
		t.Fatalf("%s: %s, must be %s", what, got, want)
	}
}

// wantCounts: hits, misses, kept.
func wantCounts(t testing.TB, what string, c asked, hits, misses, kept int) {
	t.Helper()
	is(t, what+": hits, misses, kept", counts(c), fmt.Sprintf("%d %d %d", hits, misses, kept))
}

// wantHit and wantMiss ask a question, and look at the counts ahead and behind.
func wantHit(t testing.TB, c asked, q question) {
	t.Helper()
	hits, misses, kept := c.Hits(), c.Misses(), c.Kept()
	q.of(c)
	wantCounts(t, "D2: "+q.String()+" is a hit", c, hits+1, misses, kept)
}

func wantMiss(t testing.TB, c asked, q question, kept int) {
	t.Helper()
	hits, misses := c.Hits(), c.Misses()
	q.of(c)
	wantCounts(t, "D2: "+q.String()+" is a miss", c, hits, misses+1, kept)
}

// wantErrArg: a new *api.Wrong with just that, and no cache.
func wantErrArg(t testing.TB, what string, c *dispatch.Cache, err error) {
	t.Helper()
	w, ok := err.(*api.Wrong)
	if !ok || w == nil || *w != (api.Wrong{Code: api.ErrArg}) || !errors.Is(err, api.ErrArg) {
		t.Errorf("%s: the error is %#v, must be ErrArg", what, err)
	}
	if c != nil {
		t.Errorf("P2: %s: beside an error there is a cache", what)
	}
}

// mixed are questions of both kinds: what is there, and what is not.
func mixed() []question {
	var out []question
	for _, name := range []string{"A", "B", "C", "D", "E", "K", "P", "F", "fault", "int", "list", "any", "error", "nobody", "", "main"} {
		for _, pointer := range []bool{false, true} {
			for _, what := range []string{"f", "g", "h", "n", "x", "y", "A", "C", "P", "Error", "word", "nothing", ""} {
				out = append(out, find(name, pointer, what))
			}
			for _, protocol := range []string{"P", "F", "any", "error", "A", "f", "nobody", ""} {
				out = append(out, meet(name, pointer, protocol))
			}
		}
	}
	return out
}

// large is a program with over 1024 methods, and wide are as many questions for them.
func large() string {
	var out strings.Builder
	for i := range 20 {
		fmt.Fprintf(&out, "type T%d struct { a }\n", i)
		for j := range 30 {
			fmt.Fprintf(&out, "func (t T%d) m%d(%s) { }\n", i, j, strings.Join([]string{"a", "b", "c"}[:j%4], ", "))
		}
	}
	return out.String() + "func main() { }"
}

func wide(n int) []question {
	var out []question
	for _, pointer := range []bool{false, true} {
		for i := range 20 {
			for j := range 30 {
				out = append(out, find("T"+strconv.Itoa(i), pointer, "m"+strconv.Itoa(j)))
			}
		}
	}
	return slices.Clip(out[:n])
}

// dice gives the same numbers on every run.
func dice(seed uint64) *rand.Rand { return rand.New(rand.NewPCG(seed, 11)) }
