package heap

import (
	"slices"
	"strconv"

	"guise/api"
	"guise/number"
	"guise/value"
)

// Read is what a pointer leads to, Write lays something there, Part is the pointer to a part; an error is a *api.Wrong, or a *api.Fault.
func (h *Heap) Read(p api.Datum) (api.Datum, error) {
	o, is := h.object(p)
	switch {
	case !is:
		return api.Datum{}, wrong(api.ErrArg)
	case o == nil:
		return api.Datum{}, fault("nil", "pointer")
	}
	part, _ := partOf(o.held, p.Ref.Path...)
	return copied(part), nil
}

func (h *Heap) Write(p, d api.Datum) error {
	o, is := h.object(p)
	switch {
	case !is || !value.Right(d):
		return wrong(api.ErrArg)
	case o == nil:
		return fault("nil", "pointer")
	case d.Kind != api.KStruct || d.Type != p.Type:
		return fault("conversion", number.Name(d)+" is not "+p.Type)
	}
	held := replaced(o.held, p.Ref.Path, copied(d))
	if n := size(held); n > api.MaxSize {
		return fault("count", strconv.Itoa(n))
	}
	o.held = held
	return nil
}

func (h *Heap) Part(p api.Datum, field int, name string) (api.Datum, error) {
	o, is := h.object(p)
	switch {
	case !is:
		return api.Datum{}, wrong(api.ErrArg)
	case o == nil:
		return api.Datum{}, fault("nil", "field "+name)
	}
	path := append(slices.Clone(p.Ref.Path), field)
	part, is := partOf(o.held, path...)
	if !is || part.Type != name {
		return api.Datum{}, wrong(api.ErrArg)
	}
	return leading(api.KPointer, name, api.Ref{Object: p.Ref.Object, Path: path}), nil
}

// replaced is a struct with d along a path that it has; what stands on the way is made anew, since others may have it too.
func replaced(whole api.Datum, path []int, d api.Datum) api.Datum {
	if len(path) == 0 {
		return d
	}
	whole.Items = slices.Clone(whole.Items)
	item := &whole.Items[path[0]]
	*item = replaced(*item, path[1:], d)
	return whole
}

func size(d api.Datum) int {
	n := 1
	for _, item := range d.Items {
		n += size(item)
	}
	return n
}

// Open and Set are of a variable.
func (h *Heap) Open(box int) (api.Datum, bool) {
	v := h.variable(box)
	if v == nil {
		return api.Datum{}, false
	}
	return copied(v.held), true
}

func (h *Heap) Set(box int, d api.Datum) bool {
	v := h.variable(box)
	if v == nil || !value.Right(d) {
		return false
	}
	v.held = copied(d)
	return true
}
