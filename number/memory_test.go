package number_test

import (
	"errors"
	"strings"
	"sync"
	"testing"
	"unsafe"

	"guise/api"
	"guise/number"
)

// writable is a text whose bytes can be written over.
func writable(s string, kept *[][]byte) string {
	if s == "" {
		return ""
	}
	own := []byte(s)
	*kept = append(*kept, own)
	return unsafe.String(&own[0], len(own))
}

// roomy is a datum of memory of its own, with spare room behind its lists, in which something stands.
func roomy(d api.Datum, kept *[][]byte) api.Datum {
	d.Type, d.S = writable(d.Type, kept), writable(d.S, kept)
	path := append(make([]int, 0, len(d.Ref.Path)+3), d.Ref.Path...)
	copy(path[len(path):cap(path)], []int{91, 92, 93})
	d.Ref.Path = path
	items := append(make([]api.Datum, 0, len(d.Items)+2), d.Items...)
	copy(items[len(items):cap(items)], []api.Datum{integer(94), text("95")})
	d.Items = items
	return d
}

// allOf writes a datum with what stands behind its lists.
func allOf(d api.Datum) string {
	d.Ref.Path = d.Ref.Path[:cap(d.Ref.Path)]
	d.Items = d.Items[:cap(d.Items)]
	return good(d)
}

func wipe(d api.Datum, kept [][]byte) {
	for _, own := range kept {
		for i := range own {
			own[i] = '#'
		}
	}
	for i := range d.Ref.Path[:cap(d.Ref.Path)] {
		d.Ref.Path[:cap(d.Ref.Path)][i] = -99
	}
	for i := range d.Items[:cap(d.Items)] {
		d.Items[:cap(d.Items)][i] = integer(-99)
	}
}

// asked is what all calls answer of two data: told at once, and told again later.
type asked struct {
	data   []api.Datum
	errors []error
	texts  []string
	was    string
}

func (x *asked) told(t *testing.T) string {
	t.Helper()
	var out strings.Builder
	for i, d := range x.data {
		out.WriteString(answered(t, d, x.errors[i]) + "\n")
	}
	return out.String() + strings.Join(x.texts, "\n")
}

func ask(t *testing.T, op, name, s string, a, b api.Datum) *asked {
	t.Helper()
	x := &asked{texts: []string{number.Show(a), number.Name(a), number.Name(b)}}
	lay := func(d api.Datum, err error) { x.data, x.errors = append(x.data, d), append(x.errors, err) }
	lay(number.Unary(op, a))
	lay(number.Binary(op, a, b))
	for kind := api.KNil; kind <= api.KPointer; kind++ {
		lay(number.Convert(kind, name, a))
	}
	d, _ := number.Int(s)
	lay(d, nil)
	d, _ = number.Float(s)
	lay(d, nil)
	x.was = strings.Clone(x.told(t))
	return x
}

// What is handed in is not changed, nor what stands behind it; and it is not kept: what is answered stays, whatever becomes of it.
func TestNothingIsChangedOrKept(t *testing.T) {
	g := growing(21)
	for range 4000 {
		var kept [][]byte
		a := g.datum()
		b := roomy(g.other(a), &kept)
		a = roomy(a, &kept)
		op, name, s := writable(g.operation(), &kept), writable(g.name(), &kept), writable(g.literal(), &kept)
		was := allOf(a) + allOf(b) + op + name + s
		x := ask(t, op, name, s, a, b)
		if now := allOf(a) + allOf(b) + op + name + s; now != was {
			t.Fatalf("P3: what was handed in is %s, was %s", now, was)
		}
		wipe(a, kept)
		wipe(b, nil)
		if now := x.told(t); now != x.was {
			t.Fatalf("P3: what was answered is %s, was %s", now, x.was)
		}
	}
}

// shares: whether a text that is answered has bytes of one that was handed in.
func shares(a, b string) bool {
	if a == "" || b == "" {
		return false
	}
	x, y := uintptr(unsafe.Pointer(unsafe.StringData(a))), uintptr(unsafe.Pointer(unsafe.StringData(b)))
	return x < y+uintptr(len(b)) && y < x+uintptr(len(a))
}

func TestTextsAreNew(t *testing.T) {
	for _, c := range [][2]string{{"abc", ""}, {"", "abc"}, {"abc", "def"}} {
		var kept [][]byte
		a, b := roomy(typed("Type", text(c[0])), &kept), roomy(typed("Type", text(c[1])), &kept)
		name := writable("Name", &kept)
		outs := []api.Datum{binaryDone(t, "+", a, b), convertDone(t, api.KText, name, a), convertDone(t, api.KText, a.Type, a)}
		for kind := api.KBool; kind <= api.KFunc; kind++ {
			outs = append(outs, convertDone(t, kind, name, api.Datum{Kind: kind}))
		}
		outs = append(outs, unaryDone(t, "-", typed(a.Type, integer(1))), unaryDone(t, "-", typed(a.Type, float(1))), unaryDone(t, "!", typed(a.Type, boolean(1))))
		outs = append(outs, convertDone(t, api.KInt, name, float(1)), convertDone(t, api.KFloat, name, integer(1)))
		outs = append(outs, text(number.Name(a)), text(number.Show(a)), text(number.Name(api.Datum{Kind: api.KPointer, Type: a.Type})))
		for _, out := range outs {
			for _, own := range []string{out.S, out.Type} {
				for _, given := range []string{a.S, b.S, a.Type, b.Type, name} {
					if shares(own, given) {
						t.Errorf("P3: %s shares %q", good(out), given)
					}
				}
			}
		}
	}
}

// Paths that are answered are their owner's, with their spare room; no two share any.
func TestPathsAreNew(t *testing.T) {
	for kind := api.KList; kind <= api.KFunc; kind++ {
		for _, path := range [][]int{nil, {}, {1}, {1, 2, 3}, {0, 1, 2, 3, 4, 5, 6, 7, 8}} {
			var kept [][]byte
			a := roomy(api.Datum{Kind: kind, Type: "T", Ref: api.Ref{Object: 1, Path: path}}, &kept)
			was := allOf(a)
			first, second := convertDone(t, kind, "U", a), convertDone(t, kind, "U", a)
			want := good(second)
			for i := range first.Ref.Path[:cap(first.Ref.Path)] {
				first.Ref.Path[:cap(first.Ref.Path)][i] = -77
			}
			_ = append(first.Ref.Path, -78)
			if allOf(a) != was || good(second) != want || len(second.Ref.Path) != len(path) {
				t.Errorf("P3: the kind %d: %s %s", kind, allOf(a), good(second))
			}
			for _, n := range second.Ref.Path[len(second.Ref.Path):cap(second.Ref.Path)] {
				if n == -77 || n > 90 {
					t.Errorf("P3: behind the path stands %d", n)
				}
			}
		}
	}
}

// Each fault is a new one, that its owner may write over; where there is none, the error is nil itself.
func TestFaultsAreNew(t *testing.T) {
	calls := map[string]func() error{
		`!operand "- text"`:      func() error { _, err := number.Unary("-", text("a")); return err },
		`!operand "+ bool bool"`: func() error { _, err := number.Binary("+", boolean(1), boolean(1)); return err },
		`!operand "+ int text"`:  func() error { _, err := number.Binary("+", integer(1), text("a")); return err },
		`!divide ""`:             func() error { _, err := number.Binary("%", integer(1), integer(0)); return err },
		`!count "-1"`:            func() error { _, err := number.Binary("<<", integer(1), integer(-1)); return err },
		`!count "70000"`:         func() error { _, err := number.Binary("+", text(strings.Repeat("a", 70000)), text("")); return err },
		`!operand "text int"`:    func() error { _, err := number.Convert(api.KText, "text", integer(3)); return err },
		`!operand "T *T"`: func() error {
			_, err := number.Convert(api.KPointer, "T", api.Datum{Kind: api.KPointer, Type: "T"})
			return err
		},
		`!operand "\x00 nil"`:       func() error { _, err := number.Unary("\x00", api.Datum{}); return err },
		`!operand "== float float"`: func() error { _, err := number.Binary("==", float(1), float(1)); return err },
		`!operand "! int"`:          func() error { _, err := number.Unary("!", integer(0)); return err },
		`!operand "&& bool bool"`:   func() error { _, err := number.Binary("&&", boolean(1), boolean(0)); return err },
		`!operand "T U"`:            func() error { _, err := number.Convert(99, "T", api.Datum{Kind: 99, Type: "U"}); return err },
		`!operand "- *T *T"`: func() error {
			p := api.Datum{Kind: api.KPointer, Type: "T"}
			_, err := number.Binary("-", p, p)
			return err
		},
		`!operand "% float float"`:  func() error { _, err := number.Binary("%", float(1), float(0)); return err },
		`!operand "<< float float"`: func() error { _, err := number.Binary("<<", float(1), float(-1)); return err },
		`!operand "- text text"`:    func() error { _, err := number.Binary("-", text("a"), text("a")); return err },
		`!operand "< struct struct"`: func() error {
			s := api.Datum{Kind: api.KStruct, Type: "struct"}
			_, err := number.Binary("<", s, s)
			return err
		},
	}
	for want, call := range calls {
		first, second := call(), call()
		if got := answered(t, api.Datum{}, second); got != want {
			t.Errorf("%s, must be %s", got, want)
		}
		one, _ := first.(*api.Fault)
		two, _ := second.(*api.Fault)
		if one == two {
			t.Errorf("P2: %s: one fault for two", want)
		}
		one.Word, one.More = "other", "words"
		if got := answered(t, api.Datum{}, call()); got != want {
			t.Errorf("P2: %s, must be %s", got, want)
		}
		if errors.Unwrap(second) != nil {
			t.Errorf("P2: %s has something within", want)
		}
	}
	if _, err := number.Unary("-", integer(1)); err != nil {
		t.Errorf("P2: %#v", err)
	}
	if _, err := number.Binary("-", integer(1), integer(1)); err != nil {
		t.Errorf("P2: %#v", err)
	}
	if _, err := number.Convert(api.KInt, "T", integer(1)); err != nil {
		t.Errorf("P2: %#v", err)
	}
}

// Several may ask at one time, of the same data.
func TestAtOneTime(t *testing.T) {
	g := growing(22)
	a := g.datum()
	b := g.other(a)
	want := ask(t, "+", "T", "1.5", a, b).was
	var group sync.WaitGroup
	for range 8 {
		group.Go(func() {
			for range 200 {
				if x := ask(t, "+", "T", "1.5", a, b); x.was != want {
					t.Errorf("P4: %s, must be %s", x.was, want)
				}
			}
		})
	}
	group.Wait()
}
