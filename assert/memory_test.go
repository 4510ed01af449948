package assert_test

import (
	"fmt"
	"strings"
	"sync"
	"testing"
	"unsafe"

	"guise/api"
	"guise/assert"
)

// writable is a text whose bytes can be written over.
func writable(s string, kept *[][]byte) string {
	if s == "" {
		return ""
	}
	own := []byte(s)
	*kept = append(*kept, own)
	return unsafe.String(&own[0], len(own))
}

// roomy is a datum of memory of its own, with spare room behind all its lists, in which something stands.
func roomy(d api.Datum, kept *[][]byte) api.Datum {
	d.Type, d.S = writable(d.Type, kept), writable(d.S, kept)
	path := append(make([]int, 0, len(d.Ref.Path)+3), d.Ref.Path...)
	copy(path[len(path):cap(path)], []int{91, 92, 93})
	d.Ref.Path = path
	items := append(make([]api.Datum, 0, len(d.Items)+2), d.Items...)
	for i := range items {
		items[i] = roomy(items[i], kept)
	}
	copy(items[len(items):cap(items)], []api.Datum{nilOf("A"), text("95")})
	d.Items = items
	return d
}

// allOf writes a datum with what stands behind its lists.
func allOf(d api.Datum) string {
	d.Ref.Path = d.Ref.Path[:cap(d.Ref.Path)]
	items := d.Items[:cap(d.Items)]
	d.Items = nil
	out := good(d) + "{"
	for _, item := range items {
		out += allOf(item) + ", "
	}
	return out + "}"
}

// wipe writes over all that a datum leads to.
func wipe(d api.Datum, kept [][]byte) {
	for _, own := range kept {
		for i := range own {
			own[i] = '#'
		}
	}
	for i := range d.Ref.Path[:cap(d.Ref.Path)] {
		d.Ref.Path[:cap(d.Ref.Path)][i] = -99
	}
	for i, item := range d.Items[:cap(d.Items)] {
		wipe(item, nil)
		d.Items[:cap(d.Items)][i] = integer(-99)
	}
}

// asked is all that the calls answer of a datum: it is told at once, and again later.
type asked struct {
	out    api.Datum
	found  api.Found
	errors [2]error
	row    int
}

func ask(x *grower, d api.Datum, want string, star bool, name string, rows [][]assert.Case) *asked {
	a := &asked{row: assert.Choose(x.x, d, rows)}
	a.out, a.errors[0] = assert.Must(x.x, d, want, star)
	a.found, a.errors[1] = assert.Select(x.x, d, name)
	return a
}

func (a *asked) told(t *testing.T) string {
	t.Helper()
	return strings.Clone(fmt.Sprint(good(a.out), fmt.Sprintf("%+v", a.found), told(t, a.errors[0]), told(t, a.errors[1]), a.row))
}

// roomyRows are rows of memory of their own, with cases and rows behind them that would fit.
func roomyRows(rows [][]assert.Case, kept *[][]byte) [][]assert.Case {
	out := make([][]assert.Case, len(rows), len(rows)+1)
	for i, row := range rows {
		out[i] = append(make([]assert.Case, 0, len(row)+2), row...)
		for j := range out[i] {
			out[i][j].Want = writable(out[i][j].Want, kept)
		}
		copy(out[i][len(row):cap(out[i])], []assert.Case{{Want: "any"}, {Nil: true}})
	}
	out[:len(rows)+1][len(rows)] = []assert.Case{{Want: "any"}, {Nil: true}}
	return out
}

func allRows(rows [][]assert.Case) string {
	var out strings.Builder
	for _, row := range rows[:cap(rows)] {
		fmt.Fprintf(&out, "%+v\n", row[:cap(row)])
	}
	return out.String()
}

// A5: what is handed in is not changed, nor what stands behind it; and it is not kept: answers stay, whatever becomes of it; so does what
// the table tells.
func TestNothingIsChangedOrKept(t *testing.T) {
	g := growing(21)
	for range 300 {
		g.program()
		for range 6 {
			d, name := oneOf(g.Rand, g.datum(2), g.odd(2)), oneOf(g.Rand, parts...)
			d = oneOf(g.Rand, d, g.strewn(d, name))
			want, star := oneOf(g.Rand, append(g.all, d.Type, d.Type, "any")...), g.chance(1, 3)
			rows := g.rows()
			still := ask(g, d, want, star, name, rows).told(t)
			var kept [][]byte
			handed, many := roomy(d, &kept), roomyRows(rows, &kept)
			was := allOf(handed) + allRows(many)
			a := ask(g, handed, writable(want, &kept), star, writable(name, &kept), many)
			if now := a.told(t); now != still {
				t.Fatalf("P4: %s, must be %s", now, still)
			}
			if now := allOf(handed) + allRows(many); now != was {
				t.Fatalf("A5: what was handed in is %s, was %s", now, was)
			}
			wipe(handed, kept)
			if now := a.told(t); now != still {
				t.Fatalf("A5: what was answered is %s, was %s", now, still)
			}
			if now := ask(g, d, want, star, name, rows).told(t); now != still {
				t.Fatalf("A5: %s is told later, was %s", now, still)
			}
		}
	}
}

// Data that are changed behind Must: their items, what stands in these, their paths.
func TestChangedBehindMust(t *testing.T) {
	x := table(t, examples)
	d := record("A", integer(1), record("A", text("a"), pointer("A", 3, 1, 2)), none)
	want := good(d)
	out, err := assert.Must(x, d, "A", false)
	if err != nil {
		t.Fatal(err)
	}
	d.Items[1].Items[1].Ref.Path[0] = 9
	d.Items[1].Items[0] = typed(api.KList, "list")
	d.Items[0].N = 7
	d.Items[2] = nilOf("A")
	if good(out) != want {
		t.Errorf("A2: %s, must be %s", good(out), want)
	}
	p := pointer("A", 3, 1, 2)
	out, _ = assert.Must(x, p, "A", true)
	p.Ref.Path[1] = 30
	if good(out) != good(pointer("A", 3, 1, 2)) {
		t.Errorf("A2: %s", good(out))
	}
	// and the other way round: the answer is its owner's
	d = record("A", record("A", pointer("A", 3, 1, 2)))
	want = good(d)
	out, _ = assert.Must(x, d, "any", false)
	out.Items[0].Items[0].Ref.Path[0] = 9
	out.Items[0].Items[0].N = 9
	out.Items[0] = none
	if good(d) != want {
		t.Errorf("A2: %s, must be %s", good(d), want)
	}
}

// wantEmptyBehind: in spare room stands nothing of anybody's.
func wantEmptyBehind(t *testing.T, d api.Datum) {
	t.Helper()
	for _, n := range d.Ref.Path[len(d.Ref.Path):cap(d.Ref.Path)] {
		if n != 0 {
			t.Errorf("P3: behind a path stands %d", n)
		}
	}
	for _, item := range d.Items[len(d.Items):cap(d.Items)] {
		if good(item) != good(none) {
			t.Errorf("P3: behind items stands %s", good(item))
		}
	}
	for _, item := range d.Items {
		wantEmptyBehind(t, item)
	}
}

// What Must answers is new memory, spare room too: whoever writes over it changes no other answer, and nothing that was handed in.
func TestMustAnswersAreNew(t *testing.T) {
	g := growing(22)
	g.program()
	for range 3000 {
		d := oneOf(g.Rand, g.datum(2), g.odd(3))
		if d.Kind == api.KNil {
			continue
		}
		var kept [][]byte
		handed := roomy(d, &kept)
		was := allOf(handed)
		first, _ := assert.Must(g.x, handed, "any", false)
		second, _ := assert.Must(g.x, handed, "any", false)
		want := good(second)
		wantEmptyBehind(t, first)
		wipe(first, nil)
		_ = append(first.Items, integer(-98))
		_ = append(first.Ref.Path, -97)
		if good(second) != want || allOf(handed) != was {
			t.Fatalf("P3: %s, must be %s; %s", good(second), want, allOf(handed))
		}
	}
}

// Within one answer no two lists share memory, also where what was handed in does.
func TestNoListTwice(t *testing.T) {
	x := table(t, examples)
	shared := record("A", pointer("A", 1, 2, 3), record("A", none))
	d := record("A", shared, shared, shared, shared)
	out, _ := assert.Must(x, d, "A", false)
	want, all := good(shared), good(d)
	for i := range out.Items {
		wipe(out.Items[i], nil)
		for _, later := range out.Items[i+1:] {
			if good(later) != want {
				t.Fatalf("P3: %s, must be %s", good(later), want)
			}
		}
	}
	if good(d) != all {
		t.Errorf("P3: what was handed in is %s", good(d))
	}
}

// shares: whether a text that is answered has bytes of one that was handed in.
func shares(a, b string) bool {
	if a == "" || b == "" {
		return false
	}
	x, y := uintptr(unsafe.Pointer(unsafe.StringData(a))), uintptr(unsafe.Pointer(unsafe.StringData(b)))
	return x < y+uintptr(len(b)) && y < x+uintptr(len(a))
}

func TestTextsAreNew(t *testing.T) {
	x := table(t, nested)
	var kept [][]byte
	name, want := writable("v", &kept), writable("Out", &kept)
	d := roomy(record("Core", text("abc"), nilOf("In")), &kept)
	out, _ := assert.Must(x, d, "any", false)
	f, _ := assert.Select(x, d, name)
	_, conversion := assert.Must(x, d, want, false)
	_, missing := assert.Select(x, d, writable("Q", &kept))
	_, absent := assert.Select(x, none, name)
	texts := []string{out.Type, out.Items[0].Type, out.Items[0].S, out.Items[1].Type, f.Type, conversion.(*api.Fault).More, missing.(*api.Fault).More, absent.(*api.Fault).More}
	for _, s := range texts {
		for _, own := range kept {
			if s == "" || shares(s, unsafe.String(&own[0], len(own))) {
				t.Errorf("P3: %q shares memory with %q", s, own)
			}
		}
	}
}

// Each fault is a new one, that its owner may write over; where there is none, the error is nil itself.
func TestFaultsAreNew(t *testing.T) {
	x := table(t, examples)
	second := func(_ any, err error) error { return err }
	b := zero(t, x, "B")
	for _, call := range []func() error{
		func() error { return second(assert.Must(x, none, "any", false)) },
		func() error { return second(assert.Must(x, integer(1), "text", false)) },
		func() error { return second(assert.Must(x, b, "P", false)) },
		func() error { return second(assert.Select(x, none, "x")) },
		func() error { return second(assert.Select(x, b, "nobody")) },
		func() error { return second(assert.Select(x, b, "x")) },
		func() error { return second(assert.Select(x, nilOf("A"), "x")) },
		func() error { return second(assert.Select(x, nilOf("A"), "f")) },
		func() error { return second(assert.Select(x, b, "y")) },
		func() error { return second(assert.Select(x, zero(t, x, "E"), "f")) },
	} {
		first, other := call(), call()
		want := told(t, other)
		if first == other || want == "" || told(t, first) != want {
			t.Errorf("P2: %v and %v", first, other)
		}
		*first.(*api.Fault) = api.Fault{Word: "other", More: "words"}
		if told(t, other) != want || told(t, call()) != want {
			t.Errorf("P2: %s was written over", want)
		}
	}
	if err := second(assert.Must(x, integer(1), "int", false)); err != nil {
		t.Errorf("P2: %#v", err)
	}
	if err := second(assert.Select(x, b, "f")); err != nil {
		t.Errorf("P2: %#v", err)
	}
}

// Several may ask at one time, of one table and of the same data.
func TestAtOneTime(t *testing.T) {
	g := growing(23)
	g.program()
	d, rows := g.datum(2), g.rows()
	var want []string
	for _, name := range parts {
		want = append(want, ask(g, d, "any", false, name, rows).told(t))
	}
	var group sync.WaitGroup
	for range 8 {
		group.Go(func() {
			for range 100 {
				for i, name := range parts {
					if got := ask(g, d, "any", false, name, rows).told(t); got != want[i] {
						t.Errorf("P4: %s, must be %s", got, want[i])
					}
				}
			}
		})
	}
	group.Wait()
}
