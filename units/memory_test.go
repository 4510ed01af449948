package units_test

import (
	"fmt"
	"sync"
	"testing"
	"unsafe"

	"guise/api"
	"guise/units"
)

// own is a text in memory of its own, that can be written over.
func own(s string) string {
	if s == "" {
		return ""
	}
	b := append([]byte(nil), s...)
	return unsafe.String(&b[0], len(b))
}

// wipe writes over a text's bytes; one of a single byte may be Go's own, which nobody can write.
func wipe(s string) {
	if len(s) > 1 {
		b := unsafe.Slice(unsafe.StringData(s), len(s))
		for i := range b {
			b[i] = '~'
		}
	}
}

// ownUnits are units in memory of their own, with something behind them.
func ownUnits(l []units.Unit) []units.Unit {
	out := make([]units.Unit, len(l), len(l)+2)
	for i, u := range l {
		out[i] = units.Unit{Name: own(u.Name), Source: own(u.Source)}
	}
	copy(out[len(l):cap(out)], of("behind", "import x", "further", "y"))
	return out
}

// wipeUnits writes over units, over what they say, and over what stands behind them.
func wipeUnits(l []units.Unit) {
	for _, u := range l {
		wipe(u.Name)
		wipe(u.Source)
	}
	l = l[:cap(l)]
	for i := range l {
		l[i] = units.Unit{Name: "?", Source: "?"}
	}
}

// lists are all lists of Kids of a tree.
func lists(n *api.Node) [][]api.Node {
	out := [][]api.Node{n.Kids}
	for i := range n.Kids {
		out = append(out, lists(&n.Kids[i])...)
	}
	return out
}

// nodes are all nodes of a tree, where they stand.
func nodes(n *api.Node) []*api.Node {
	out := []*api.Node{n}
	for i := range n.Kids {
		out = append(out, nodes(&n.Kids[i])...)
	}
	return out
}

// several are units of all kinds that are joined, and refused.
func several() [][]units.Unit {
	const long = "type Shape struct { .Point; .*Names; size }\ntype Point struct { xx; yy }\ntype Names struct { }\nvar count = 12\nfunc (ss Shape) area(some) { count = lib.count; for ii in 3 { ii = Point{xx: count} }; return ss.Point.xx + lib.area(\"text\") }\n"
	out := [][]units.Unit{
		of("main", "import lib\n"+long, "lib", "var count = 1\nfunc area(xx) { return count }"),
		of("lib", "var count = 1\nfunc area(xx) { return count }", "shapes", " import lib \n"+long, "other", "import shapes lib\nvar first = shapes.Shape{size: lib.count}"),
		of("main", "import main"), of("main", "import lib", "lib", "import main"), of("main", "import lib lib", "lib", ""), of("main", "import"), of("some__thing", ""), of("main", "", "main", ""),
		of("main", "var some__thing = 1"), of("main", "import lib\nvar lib = 1", "lib", ""), of("main", "import lib\nvar some = lib.nothing", "lib", ""), of("main", "var some = nothing nothing"), of("main", "# # #"),
		of("main", "", "lib", "type Some struct { .Some }\nprotocol Other { Some(1) }"),
	}
	g := growing(8)
	for range 150 {
		out = append(out, g.units())
	}
	return out
}

// What was handed in is as it was, is written over then, and nothing of that is seen.
func TestWhatIsHandedIn(t *testing.T) {
	for _, l := range several() {
		row, tree := ordered(t, l), joined(t, l)
		mine := ownUnits(l)
		numbers, err := units.Order(mine)
		n, joinErr := units.Join(mine)
		if fmt.Sprint(mine[:cap(mine)]) != fmt.Sprint(ownUnits(l)[:len(l)+2]) {
			t.Fatalf("U3: %sis written into", listed(l))
		}
		wipeUnits(mine)
		if err != nil {
			is(t, "U3: an error", told(t, err), row)
		} else {
			is(t, "U3: Order", fmt.Sprint(numbers), "["+row+"]")
		}
		if joinErr != nil {
			is(t, "U3: an error", told(t, joinErr), tree)
		} else {
			is(t, "U3: Join", drawn(n), tree)
		}
	}
}

// What came out is written over, spare room too: another answer, and a later one, are as they were.
func TestWhatComesOut(t *testing.T) {
	for _, l := range several() {
		row, tree := ordered(t, l), joined(t, l)
		numbers, err := units.Order(l)
		other, _ := units.Order(l)
		for i := range numbers[:cap(numbers)] {
			numbers[:cap(numbers)][i] = -1
		}
		n, joinErr := units.Join(l)
		m, _ := units.Join(l)
		for _, node := range nodes(&n) {
			wipe(node.Text)
		}
		for _, list := range lists(&n) {
			for i := range list[:cap(list)] {
				list[:cap(list)][i] = api.Node{Kind: 99, Text: "?", At: -1}
			}
		}
		if w, ok := joinErr.(*api.Wrong); ok {
			wipe(w.Name)
			*w = api.Wrong{}
		} else {
			is(t, "U3: another answer", drawn(m), tree)
		}
		if w, ok := err.(*api.Wrong); ok {
			wipe(w.Name)
			*w = api.Wrong{}
		} else {
			is(t, "U3: another answer", fmt.Sprint(other), "["+row+"]")
		}
		is(t, "U3: a later Order", ordered(t, l), row)
		is(t, "U3: a later Join", joined(t, l), tree)
	}
}

// Each list of an answer has its own memory, and each text has.
func TestNothingIsShared(t *testing.T) {
	for _, l := range several()[:40] {
		n, err := units.Join(l)
		if err != nil {
			continue
		}
		was := drawn(n)
		for _, list := range lists(&n) {
			for i := range list[len(list):cap(list)] {
				list[len(list):cap(list)][i] = api.Node{Kind: 99, Text: "?"}
			}
			_ = append(list, api.Node{Kind: 98})
		}
		is(t, "P3: the lists share memory", drawn(n), was)
		texts := map[*byte]string{}
		for _, node := range nodes(&n) {
			if len(node.Text) > 1 {
				at := unsafe.StringData(node.Text)
				if first, shared := texts[at]; shared {
					t.Fatalf("P3: %s%q and %q share memory", listed(l), first, node.Text)
				}
				texts[at] = node.Text
			}
		}
	}
}

// Again, and by several goroutines at one time, it is the same.
func TestTheSameAgain(t *testing.T) {
	for _, l := range several()[:60] {
		row, tree := ordered(t, l), joined(t, l)
		got := make([]string, 8)
		var all sync.WaitGroup
		for i := range got {
			all.Go(func() { got[i] = ordered(t, l) + "; " + joined(t, l) })
		}
		all.Wait()
		for _, one := range got {
			is(t, "P4", one, row+"; "+tree)
		}
	}
}
