package heap

import (
	"slices"

	"guise/api"
	"guise/keyed"
	"guise/value"
)

// thing is what a number stands for. Nobody writes into the data that things hold: what is laid down anew is another datum, so that things may
// share what their data lead to.
type thing interface {
	// leads puts the numbers to which it leads behind others, in no order, and some of them twice.
	leads(numbers []int) []int
}

type (
	object   struct{ held api.Datum } // a struct
	array    struct{ elements []api.Datum }
	mapping  struct{ *keyed.Map }
	variable struct{ held api.Datum }
	function struct {
		code  int
		boxes []int
		bound []api.Datum
	}
)

func (o *object) leads(numbers []int) []int { return named(numbers, o.held) }

func (a *array) leads(numbers []int) []int { return named(numbers, a.elements...) }

func (m *mapping) leads(numbers []int) []int {
	for k, v := range m.All() {
		numbers = named(numbers, k, v)
	}
	return numbers
}

func (v *variable) leads(numbers []int) []int { return named(numbers, v.held) }

func (f *function) leads(numbers []int) []int { return named(append(numbers, f.boxes...), f.bound...) }

// named puts the numbers that data name behind others.
func named(numbers []int, l ...api.Datum) []int {
	for _, d := range l {
		if d.Ref.Object != 0 {
			numbers = append(numbers, d.Ref.Object)
		}
		numbers = named(numbers, d.Items...)
	}
	return numbers
}

// piece is what a list of the array has: its elements, and behind them as much room as it has.
func (a *array) piece(r api.Ref) []api.Datum {
	return a.elements[r.From : r.From+r.Len : r.From+r.Cap]
}

// fits tells whether a datum leads to a thing that fits.
func (h *Heap) fits(d api.Datum) bool {
	if !value.Right(d) {
		return false
	}
	if d.Ref.Object == 0 {
		return true
	}
	switch t := h.things[d.Ref.Object].(type) {
	case *object:
		if d.Kind != api.KPointer {
			return false
		}
		part, is := partOf(t.held, d.Ref.Path...)
		return is && part.Type == d.Type
	case *array:
		return d.Kind == api.KList && d.Ref.From+d.Ref.Cap <= len(t.elements)
	case *mapping:
		return d.Kind == api.KMap
	case *function:
		return d.Kind == api.KFunc
	}
	return false
}

// partOf is the struct that stands in a struct along a path; false: there is none.
func partOf(d api.Datum, path ...int) (api.Datum, bool) {
	for _, n := range path {
		if n < 0 || n >= len(d.Items) || d.Items[n].Kind != api.KStruct {
			return api.Datum{}, false
		}
		d = d.Items[n]
	}
	return d, true
}

// object, piece, mapping and function are to what a datum leads, nil of one that leads to none; false: it is of another kind, or does not fit.
func (h *Heap) object(p api.Datum) (*object, bool) {
	if p.Kind != api.KPointer || !h.fits(p) {
		return nil, false
	}
	o, _ := h.things[p.Ref.Object].(*object)
	return o, true
}

func (h *Heap) piece(l api.Datum) ([]api.Datum, bool) {
	if l.Kind != api.KList || !h.fits(l) {
		return nil, false
	}
	if a, is := h.things[l.Ref.Object].(*array); is {
		return a.piece(l.Ref), true
	}
	return nil, true
}

func (h *Heap) mapping(m api.Datum) (*mapping, bool) {
	if m.Kind != api.KMap || !h.fits(m) {
		return nil, false
	}
	t, _ := h.things[m.Ref.Object].(*mapping)
	return t, true
}

func (h *Heap) function(f api.Datum) (*function, bool) {
	if f.Kind != api.KFunc || !h.fits(f) {
		return nil, false
	}
	t, _ := h.things[f.Ref.Object].(*function)
	return t, true
}

// variable is nil, if the number is none's.
func (h *Heap) variable(n int) *variable {
	v, _ := h.things[n].(*variable)
	return v
}

// Things is the numbers of those that there are, rising; Leads to which others one leads, rising; Free forgets one.
func (h *Heap) Things() []int {
	numbers := make([]int, 0, len(h.things))
	for n := range h.things {
		numbers = append(numbers, n)
	}
	slices.Sort(numbers)
	return numbers
}

func (h *Heap) Leads(n int) []int {
	t, is := h.things[n]
	if !is {
		return nil
	}
	numbers := t.leads(nil)
	slices.Sort(numbers)
	return slices.Compact(numbers)
}

func (h *Heap) Free(n int) bool {
	_, is := h.things[n]
	delete(h.things, n)
	return is
}
