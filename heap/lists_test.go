package heap_test

import (
	"fmt"
	"math"
	"slices"
	"strings"
	"testing"

	"guise/api"
	"guise/heap"
	"guise/value"
)

func TestAt(t *testing.T) {
	for _, c := range []struct {
		l    api.Datum
		i    int
		want string
	}{
		{list(zooArray, 5), 0, "10"}, {list(zooArray, 5), 4, "14"}, {list(zooArray, 5), 5, "range index 5 of 5"}, {list(zooArray, 5), -1, "range index -1 of 5"}, {list(zooArray, 5), math.MinInt, "range index -9223372036854775808 of 5"}, {list(zooArray, 5), math.MaxInt, "range index 9223372036854775807 of 5"},
		{piece(zooArray, 1, 2, 4), 0, "11"}, {piece(zooArray, 1, 2, 4), 1, "12"}, {piece(zooArray, 1, 2, 4), 2, "range index 2 of 2"}, {piece(zooArray, 1, 2, 4), -1, "range index -1 of 2"}, {piece(zooArray, 1, 2, 2), 2, "range index 2 of 2"},
		{piece(zooArray, 5, 0, 0), 0, "range index 0 of 0"}, {piece(zooArray, 2, 0, 3), 0, "range index 0 of 0"}, {piece(zooArray, 4, 1, 1), 0, "14"}, {typed("L", piece(zooArray, 3, 2, 2)), 1, "14"},
		{list(zooEmpty, 0), 0, "range index 0 of 0"}, {list(zooEmpty, 0), -1, "range index -1 of 0"}, {list(0, 0), 0, "range index 0 of 0"}, {list(0, 0), -7, "range index -7 of 0"}, {typed("L", list(0, 0)), 12, "range index 12 of 0"},
	} {
		h := newZoo(t)
		d, err := h.At(c.l, c.i)
		is(t, fmt.Sprintf("P10.4: At(%s, %d)", short(c.l), c.i), says(t, d, err), c.want)
		was := dump(t, h)
		err = h.Put(c.l, c.i, text("new"))
		if strings.HasPrefix(c.want, "range") {
			is(t, fmt.Sprintf("P10.4: Put(%s, %d)", short(c.l), c.i), fault(t, err), c.want)
			is(t, "P10.4: behind it", dump(t, h), was)
			is(t, "P10.4: Put of what is not right", fault(t, h.Put(c.l, c.i, boolean(2))), "wrong")
			continue
		}
		must(t, err)
		want := integers(10, 11, 12, 13, 14)
		want[c.l.Ref.From+c.i] = text("new")
		is(t, fmt.Sprintf("P10.4: behind Put(%s, %d)", short(c.l), c.i), "["+elements(t, h, list(zooArray, 5))+"]", shorts(want))
	}
}

// Any right datum can be put, whether it fits or not, the list itself too.
func TestPut(t *testing.T) {
	h := newZoo(t)
	l := piece(zooArray, 1, 3, 3)
	for i, d := range slices.Concat(leadless(), nils(), []api.Datum{l, list(77, 3), pointer(zooObject), mapping(zooGone), function(9), within(99, none)}) {
		must(t, h.Put(l, i%3, d))
		if got, err := h.At(l, i%3); err != nil || !value.Same(got, d) {
			t.Errorf("P10.4: Put(%s): %s, %v", short(d), short(got), err)
		}
		is(t, "P10.4: beside it", says2(t, h, zooArray, 0, 4), "10 14")
	}
}

// says2 are two elements of an array.
func says2(t *testing.T, h store, n, i, j int) string {
	t.Helper()
	return elements(t, h, piece(n, i, 1, 1)) + " " + elements(t, h, piece(n, j, 1, 1))
}

func TestSlice(t *testing.T) {
	whole, part := list(zooArray, 5), piece(zooArray, 1, 2, 3)
	for _, c := range []struct {
		l              api.Datum
		from, to, most int
		want           string
	}{
		{whole, 0, 5, -1, "list@2[0:5:5]"}, {whole, 0, 0, -1, "list@2[0:0:5]"}, {whole, 5, 5, -1, "list@2[5:5:5]"}, {whole, 2, 3, -1, "list@2[2:3:5]"}, {whole, 2, 3, 3, "list@2[2:3:3]"}, {whole, 2, 3, 5, "list@2[2:3:5]"}, {whole, 0, 0, 0, "list@2[0:0:0]"}, {whole, 5, 5, 5, "list@2[5:5:5]"},
		{whole, 0, 6, -1, "range slice 0 6 of 5"}, {whole, 6, 6, -1, "range slice 6 6 of 5"}, {whole, 3, 2, -1, "range slice 3 2 of 5"}, {whole, -1, 2, -1, "range slice -1 2 of 5"}, {whole, -2, -1, -1, "range slice -2 -1 of 5"}, {whole, 0, -1, -1, "range slice 0 -1 of 5"}, {whole, math.MinInt, math.MaxInt, -1, "range slice -9223372036854775808 9223372036854775807 of 5"},
		{whole, 0, 5, 6, "range slice 0 5 6 of 5"}, {whole, 0, 5, 4, "range slice 0 5 4 of 5"}, {whole, 0, 0, -2, "range slice 0 0 -2 of 5"}, {whole, 3, 2, 5, "range slice 3 2 5 of 5"}, {whole, -1, 0, 0, "range slice -1 0 0 of 5"}, {whole, 0, 1, math.MaxInt, "range slice 0 1 9223372036854775807 of 5"}, {whole, 6, 7, 8, "range slice 6 7 8 of 5"}, {whole, -1, -1, -1, "range slice -1 -1 of 5"},
		{part, 0, 2, -1, "list@2[1:3:4]"}, {part, 0, 3, -1, "list@2[1:4:4]"}, {part, 1, 1, -1, "list@2[2:2:4]"}, {part, 3, 3, -1, "list@2[4:4:4]"}, {part, 1, 2, 2, "list@2[2:3:3]"}, {part, 1, 1, 1, "list@2[2:2:2]"},
		{part, 0, 4, -1, "range slice 0 4 of 3"}, {part, 4, 4, -1, "range slice 4 4 of 3"}, {part, 0, 3, 4, "range slice 0 3 4 of 3"}, {part, 0, 3, 2, "range slice 0 3 2 of 3"},
		{typed("L", whole), 1, 2, -1, "L@2[1:2:5]"}, {typed("L", whole), 1, 2, 3, "L@2[1:2:3]"},
		{piece(zooArray, 5, 0, 0), 0, 0, -1, "list@2[5:5:5]"}, {piece(zooArray, 5, 0, 0), 0, 1, -1, "range slice 0 1 of 0"},
		{list(zooEmpty, 0), 0, 0, -1, "list@8[0:0:0]"}, {list(zooEmpty, 0), 0, 0, 0, "list@8[0:0:0]"}, {list(zooEmpty, 0), 0, 0, 1, "range slice 0 0 1 of 0"},
		{list(0, 0), 0, 0, -1, "list@0[0:0:0]"}, {list(0, 0), 0, 0, 0, "list@0[0:0:0]"}, {typed("L", list(0, 0)), 0, 0, 0, "L@0[0:0:0]"}, {list(0, 0), 0, 1, -1, "range slice 0 1 of 0"}, {list(0, 0), 1, 1, 1, "range slice 1 1 1 of 0"}, {list(0, 0), 0, 0, 1, "range slice 0 0 1 of 0"}, {list(0, 0), -1, 0, -1, "range slice -1 0 of 0"}, {list(0, 0), 0, 0, -3, "range slice 0 0 -3 of 0"},
	} {
		h := newZoo(t)
		was := dump(t, h)
		d, err := h.Slice(c.l, c.from, c.to, c.most)
		is(t, fmt.Sprintf("P10.5: Slice(%s, %d, %d, %d)", short(c.l), c.from, c.to, c.most), says(t, d, err), c.want)
		is(t, "P10.5: behind it", dump(t, h), was)
	}
}

// Each piece that there is, from each piece that there is: as Go's own.
func TestEachSlice(t *testing.T) {
	h := heap.New()
	_, err := h.List(integers(0, 1, 2, 3))
	must(t, err)
	own := []int{0, 1, 2, 3}
	for from := range 5 {
		for to := from; to < 5; to++ {
			for most := to; most < 5; most++ {
				outer := piece(1, from, to-from, most-from)
				for i := -1; i < 6; i++ {
					for j := -1; j < 6; j++ {
						for k := -1; k < 6; k++ {
							d, err := h.Slice(outer, i, j, k)
							want := sliced(own[from:to:most], i, j, k)
							if err == nil {
								got := fmt.Sprint(elements(t, h, d), " ", d.Ref.Cap)
								is(t, fmt.Sprintf("P10.5: Slice(%s, %d, %d, %d)", short(outer), i, j, k), got, want)
							} else {
								is(t, fmt.Sprintf("P10.5: Slice(%s, %d, %d, %d)", short(outer), i, j, k), fault(t, err)[:5], want)
							}
						}
					}
				}
			}
		}
	}
}

// sliced is what Go makes of it.
func sliced(l []int, i, j, k int) (out string) {
	defer func() {
		if recover() != nil {
			out = "range"
		}
	}()
	if k == -1 {
		k = cap(l)
	}
	l = l[i:j:k]
	return fmt.Sprint(strings.Trim(fmt.Sprint(l), "[]"), " ", cap(l))
}

func TestAppend(t *testing.T) {
	for _, c := range []struct {
		l       api.Datum
		a       []api.Datum
		want    string
		all     string // elements of what came out, up to its Cap
		changed string // the old array
	}{
		{list(zooArray, 5), nil, "list@2[0:5:5]", "10 11 12 13 14", "10 11 12 13 14"},
		{typed("L", piece(zooArray, 1, 2, 3)), []api.Datum{}, "L@2[1:3:4]", "11 12 13", "10 11 12 13 14"},
		{piece(zooArray, 1, 2, 3), integers(1), "list@2[1:4:4]", "11 12 1", "10 11 12 1 14"},
		{piece(zooArray, 0, 0, 5), integers(1, 2, 3, 4, 5), "list@2[0:5:5]", "1 2 3 4 5", "1 2 3 4 5"},
		{piece(zooArray, 0, 0, 5), integers(1), "list@2[0:1:5]", "1 11 12 13 14", "1 11 12 13 14"},
		{typed("L", piece(zooArray, 2, 1, 3)), integers(1, 2), "L@2[2:5:5]", "12 1 2", "10 11 12 1 2"},
		{piece(zooArray, 1, 2, 3), integers(1, 2), "list@9[0:4:6]", "11 12 1 2 nil nil", "10 11 12 13 14"},
		{piece(zooArray, 1, 2, 2), integers(1), "list@9[0:3:4]", "11 12 1 nil", "10 11 12 13 14"},
		{piece(zooArray, 1, 2, 2), integers(1, 2), "list@9[0:4:4]", "11 12 1 2", "10 11 12 13 14"},
		{piece(zooArray, 1, 2, 2), integers(1, 2, 3), "list@9[0:5:5]", "11 12 1 2 3", "10 11 12 13 14"},
		{piece(zooArray, 1, 0, 2), integers(1, 2, 3), "list@9[0:3:4]", "1 2 3 nil", "10 11 12 13 14"},
		{list(zooArray, 5), integers(1), "list@9[0:6:10]", "10 11 12 13 14 1 nil nil nil nil", "10 11 12 13 14"},
		{typed("L", list(zooArray, 5)), integers(1, 2, 3, 4, 5, 6), "L@9[0:11:11]", "10 11 12 13 14 1 2 3 4 5 6", "10 11 12 13 14"},
		{piece(zooArray, 3, 0, 0), integers(1), "list@9[0:1:1]", "1", "10 11 12 13 14"},
		{piece(zooArray, 5, 0, 0), integers(1, 2), "list@9[0:2:2]", "1 2", "10 11 12 13 14"},
		{list(zooEmpty, 0), nil, "list@8[0:0:0]", "", "10 11 12 13 14"},
		{list(zooEmpty, 0), integers(1), "list@9[0:1:1]", "1", "10 11 12 13 14"},
		{list(0, 0), nil, "list@0[0:0:0]", "", "10 11 12 13 14"},
		{typed("L", list(0, 0)), nil, "L@0[0:0:0]", "", "10 11 12 13 14"},
		{typed("L", list(0, 0)), integers(1, 2, 3), "L@9[0:3:3]", "1 2 3", "10 11 12 13 14"},
		{piece(zooArray, 0, 0, 5), []api.Datum{none, list(zooArray, 5), list(77, 1), record(nan)}, "list@2[0:4:5]", "nil list@2[0:5:5] list@77[0:1:1] T{nan} 14", "nil list@2[0:5:5] list@77[0:1:1] T{nan} 14"},
	} {
		h := newZoo(t)
		things := len(h.Things())
		if strings.Contains(c.want, "@9") {
			things++
		}
		d, err := h.Append(c.l, c.a...)
		what := "P10.6: Append(" + short(c.l) + ", " + shorts(c.a) + ")"
		is(t, what, says(t, d, err), c.want)
		d.Ref.Len = d.Ref.Cap
		is(t, what+" up to its Cap", elements(t, h, d), c.all)
		is(t, what+": the old array", elements(t, h, list(zooArray, 5)), c.changed)
		if len(h.Things()) != things {
			t.Errorf("%s: the things are %v", what, h.Things())
		}
	}
}

func TestAppendRefused(t *testing.T) {
	for _, l := range append(fitting(api.KList), piece(zooArray, 0, 0, 5)) {
		h := newZoo(t)
		was := dump(t, h)
		for _, d := range wrong() {
			for _, a := range [][]api.Datum{{d}, {none, d}, {d, none}, {none, none, none, none, none, none, d}} {
				got, err := h.Append(l, a...)
				is(t, "P10.6: Append("+short(l)+", "+shorts(a)+")", says(t, got, err), "wrong")
			}
		}
		is(t, "P10.6: behind it", dump(t, h), was)
		if n, _ := h.Box(none); n != zooNext {
			t.Errorf("P10.6: what was refused took a number")
		}
	}
}

// One by one from nothing: the room is twice as much, each time that it is not enough.
func TestAppendOneByOne(t *testing.T) {
	h := heap.New()
	l := list(0, 0)
	room, arrays := 0, 0
	for n := range 1000 {
		if n == room {
			room, arrays = max(1, 2*room), arrays+1
		}
		var err error
		l, err = h.Append(l, integer(n))
		if err != nil || !value.Same(l, piece(arrays, 0, n+1, room)) {
			t.Fatalf("P10.6: the element %d: %s, %v, must be %s", n, short(l), err, short(piece(arrays, 0, n+1, room)))
		}
	}
	for n := range 1000 {
		if d, _ := h.At(l, n); d.N != n {
			t.Fatalf("P10.6: the element %d is %s", n, short(d))
		}
	}
	if len(h.Things()) != arrays || arrays != 11 {
		t.Errorf("P10.6: %d arrays", arrays)
	}
}

// Up to MaxRoom, and above it, though what is wanted would be less.
func TestAppendToMaxRoom(t *testing.T) {
	const half = api.MaxRoom / 2
	h := heap.New()
	all := make([]api.Datum, api.MaxRoom+1)
	all[0], all[api.MaxRoom-1] = integer(1), integer(2)
	l, err := h.List(all[:half])
	must(t, err)
	l, err = h.Append(l, integer(3))
	is(t, "P10.6: Append to a half", says(t, l, err), "list@2[0:524289:1048576]")
	full, err := h.Append(l, make([]api.Datum, half-1)...)
	is(t, "P10.6: Append up to MaxRoom", says(t, full, err), "list@2[0:1048576:1048576]")
	d, err := h.At(full, half)
	is(t, "P10.6: the element that came first", says(t, d, err), "3")
	for _, c := range []struct {
		l    api.Datum
		n    int
		want string
	}{
		{full, 0, "list@2[0:1048576:1048576]"},
		{full, 1, "wrong"},
		{piece(2, 0, half+1, half+1), 1, "wrong"},                 // twice its Cap, though so many are few
		{piece(2, 0, 1, half+1), half, "list@2[0:524289:524289]"}, // with room for them
		{piece(2, 0, 1, half+1), half + 1, "wrong"},               // without
		{piece(2, 0, half, half), half + 1, "wrong"},              // so many are more than twice its Cap
		{piece(2, 7, 10, 10), api.MaxRoom - 9, "wrong"},
		{piece(2, 7, 10, 10), api.MaxRoom - 10, "list@3[0:1048576:1048576]"},
		{list(0, 0), api.MaxRoom + 1, "wrong"},
		{typed("L", piece(2, api.MaxRoom, 0, 0)), api.MaxRoom, "L@4[0:1048576:1048576]"},
	} {
		d, err := h.Append(c.l, all[:c.n]...)
		is(t, fmt.Sprintf("P10.6: Append(%s, and %d more)", short(c.l), c.n), says(t, d, err), c.want)
		if err == nil && d.Ref.Object > 2 {
			h.Free(d.Ref.Object)
		}
	}
}

func TestCopy(t *testing.T) {
	for _, c := range []struct {
		to, from api.Datum
		n        int
		want     string // the array then
	}{
		{list(zooArray, 5), list(zooArray, 5), 5, "10 11 12 13 14"},
		{piece(zooArray, 1, 4, 4), list(zooArray, 5), 4, "10 10 11 12 13"},
		{list(zooArray, 5), piece(zooArray, 1, 4, 4), 4, "11 12 13 14 14"},
		{piece(zooArray, 2, 2, 2), piece(zooArray, 0, 3, 3), 2, "10 11 10 11 14"},
		{piece(zooArray, 0, 3, 3), piece(zooArray, 2, 2, 2), 2, "12 13 12 13 14"},
		{piece(zooArray, 1, 3, 4), piece(zooArray, 0, 3, 5), 3, "10 10 11 12 14"},
		{piece(zooArray, 0, 1, 5), piece(zooArray, 4, 1, 1), 1, "14 11 12 13 14"},
		{piece(zooArray, 0, 0, 5), list(zooArray, 5), 0, "10 11 12 13 14"},
		{list(zooArray, 5), piece(zooArray, 2, 0, 3), 0, "10 11 12 13 14"},
		{list(zooArray, 5), list(0, 0), 0, "10 11 12 13 14"},
		{list(0, 0), list(zooArray, 5), 0, "10 11 12 13 14"},
		{list(0, 0), list(0, 0), 0, "10 11 12 13 14"},
		{list(zooEmpty, 0), list(zooArray, 5), 0, "10 11 12 13 14"},
		{list(zooArray, 5), list(zooEmpty, 0), 0, "10 11 12 13 14"},
		{typed("L", piece(zooArray, 3, 2, 2)), list(zooNext, 3), 2, "10 11 12 20 21"},
		{list(zooArray, 5), list(zooNext, 3), 3, "20 21 22 13 14"},
		{list(zooNext, 3), typed("M", list(zooArray, 5)), 3, "10 11 12 13 14"},
	} {
		h := newZoo(t)
		_, err := h.List(integers(20, 21, 22))
		must(t, err)
		n, err := h.Copy(c.to, c.from)
		what := "P10.6: Copy(" + short(c.to) + ", " + short(c.from) + ")"
		is(t, what, fmt.Sprint(n, fault(t, err)), fmt.Sprint(c.n))
		is(t, what+" behind it", elements(t, h, list(zooArray, 5)), c.want)
		if c.to.Ref.Object == zooNext {
			is(t, what+": the other array", elements(t, h, list(zooNext, 3)), "10 11 12")
		} else {
			is(t, what+": the other array", elements(t, h, list(zooNext, 3)), "20 21 22")
		}
	}
}

// Each piece of an array over each other one: as if all were read first.
func TestEachCopy(t *testing.T) {
	const n = 6
	var pieces []api.Datum
	for from := range n + 1 {
		for length := range n + 1 - from {
			pieces = append(pieces, piece(1, from, length, n-from))
		}
	}
	for _, to := range pieces {
		for _, from := range pieces {
			h := heap.New()
			_, err := h.List([]api.Datum{record(integer(0)), text("1"), record(record(integer(2))), nan, pointer(5, 1), integer(5)})
			must(t, err)
			var read []api.Datum
			for i := range n {
				d, err := h.At(list(1, n), i)
				must(t, err)
				read = append(read, d)
			}
			count := min(to.Ref.Len, from.Ref.Len)
			want := slices.Clone(read)
			for i := range count {
				want[to.Ref.From+i] = read[from.Ref.From+i]
			}
			got, err := h.Copy(to, from)
			must(t, err)
			if got != count || "["+elements(t, h, list(1, n))+"]" != shorts(want) {
				t.Fatalf("P10.6: Copy(%s, %s): %d, %s, must be %d, %s", short(to), short(from), got, elements(t, h, list(1, n)), count, shorts(want))
			}
		}
	}
}
