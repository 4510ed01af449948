package collect

import (
	"slices"

	"guise/api"
	"guise/heap"
)

// none stands where a thing's number could: things are numbered from 1 on.
const none = 0

// search is how far the things of a heap were come to.
type search struct {
	things  []int       // all of them, rising
	ahead   map[int]int // of each that was come to the one that led there; none of a root
	waiting []int       // what was come to, and is not looked at yet
}

// searched comes to all that can be come to. The roots come rising, and so do those to which a thing leads: so things wait in the order of
// their rows, the shortest first, and of these the least; and whoever leads to a thing first stands ahead of it in the least of its shortest rows.
func searched(h *heap.Heap, l []api.Datum, boxes []int) *search {
	s := &search{things: h.Things(), ahead: map[int]int{}}
	for _, n := range roots(l, boxes) {
		s.meet(n, none)
	}
next:
	if len(s.waiting) == 0 {
		return s
	}
	n := s.waiting[0]
	s.waiting = s.waiting[1:]
	for _, led := range h.Leads(n) {
		s.meet(led, n)
	}
	goto next
}

// meet passes over numbers of no things, and what was come to already.
func (s *search) meet(n, ahead int) {
	if _, is := slices.BinarySearch(s.things, n); !is || s.cameTo(n) {
		return
	}
	s.ahead[n] = ahead
	s.waiting = append(s.waiting, n)
}

func (s *search) cameTo(n int) bool {
	_, is := s.ahead[n]
	return is
}

// row is which Items of a struct these are.
type row struct {
	first *api.Datum
	count int
}

// roots are the numbers that data and boxes name, of things or not, rising. Items that stand in several structs, or within themselves, are
// gone over once: so it ends, whatever is handed in.
func roots(l []api.Datum, boxes []int) []int {
	numbers := slices.Clone(boxes)
	waiting := [][]api.Datum{l}
	met := map[row]struct{}{}
next:
	if len(waiting) == 0 {
		slices.Sort(numbers)
		return numbers
	}
	items := waiting[len(waiting)-1]
	waiting = waiting[:len(waiting)-1]
	for _, d := range items {
		numbers = append(numbers, d.Ref.Object) // also that of none: it is passed over, as all are that are no things'
		if d.Kind != api.KStruct || len(d.Items) == 0 {
			continue
		}
		within := row{&d.Items[0], len(d.Items)}
		if _, is := met[within]; !is {
			met[within] = struct{}{}
			waiting = append(waiting, d.Items)
		}
	}
	goto next
}
