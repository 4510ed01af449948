package heap

import (
	"slices"

	"guise/api"
	"guise/value"
)

// Get, Lay, Drop, Size and Keys are of maps.
func (h *Heap) Get(m, k api.Datum) (api.Datum, bool, error) {
	t, is := h.mapping(m)
	switch {
	case !is:
		return api.Datum{}, false, wrong(api.ErrArg)
	case t == nil:
		return api.Datum{}, false, value.Key(k)
	}
	return t.Get(k)
}

func (h *Heap) Lay(m, k, v api.Datum) error {
	t, is := h.mapping(m)
	switch {
	case !is || !value.Right(k) || !value.Right(v):
		return wrong(api.ErrArg)
	case t == nil:
		return fault("nil", "map")
	}
	return t.Put(k, v)
}

func (h *Heap) Drop(m, k api.Datum) error {
	t, is := h.mapping(m)
	switch {
	case !is:
		return wrong(api.ErrArg)
	case t == nil:
		return value.Key(k)
	}
	_, err := t.Drop(k)
	return err
}

func (h *Heap) Size(m api.Datum) int {
	t, _ := h.mapping(m)
	if t == nil {
		return 0
	}
	return t.Len()
}

func (h *Heap) Keys(m api.Datum) ([]api.Datum, []api.Datum) {
	t, _ := h.mapping(m)
	if t == nil {
		return nil, nil
	}
	keys, values := make([]api.Datum, 0, t.Len()), make([]api.Datum, 0, t.Len())
	for k, v := range t.All() {
		keys, values = append(keys, k), append(values, v)
	}
	return keys, values
}

// Called is what a function is: its code's number, its boxes, what it is bound to.
func (h *Heap) Called(f api.Datum) (int, []int, []api.Datum, bool) {
	t, _ := h.function(f)
	if t == nil {
		return 0, nil, nil, false
	}
	return t.code, slices.Clone(t.boxes), copies(t.bound), true
}
