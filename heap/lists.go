package heap

import (
	"strconv"

	"guise/api"
	"guise/value"
)

// At, Put, Slice, Append and Copy are of lists.
func (h *Heap) At(l api.Datum, i int) (api.Datum, error) {
	piece, is := h.piece(l)
	switch {
	case !is:
		return api.Datum{}, wrong(api.ErrArg)
	case i < 0 || i >= len(piece):
		return api.Datum{}, noIndex(i, len(piece))
	}
	return copied(piece[i]), nil
}

func (h *Heap) Put(l api.Datum, i int, d api.Datum) error {
	piece, is := h.piece(l)
	switch {
	case !is || !value.Right(d):
		return wrong(api.ErrArg)
	case i < 0 || i >= len(piece):
		return noIndex(i, len(piece))
	}
	piece[i] = copied(d)
	return nil
}

func noIndex(i, length int) error {
	return fault("range", "index "+strconv.Itoa(i)+" of "+strconv.Itoa(length))
}

const noMost = -1 // as Slice's most: none is told

func (h *Heap) Slice(l api.Datum, from, to, most int) (api.Datum, error) {
	if _, is := h.piece(l); !is {
		return api.Datum{}, wrong(api.ErrArg)
	}
	r, end := l.Ref, most
	if most == noMost {
		end = r.Cap
	}
	if !(0 <= from && from <= to && to <= end && end <= r.Cap) {
		return api.Datum{}, noSlice(from, to, most, r.Cap)
	}
	// Of one that leads to none all of this is 0.
	return leading(api.KList, l.Type, api.Ref{Object: r.Object, From: r.From + from, Len: to - from, Cap: end - from}), nil
}

func noSlice(from, to, most, room int) error {
	more := "slice " + strconv.Itoa(from) + " " + strconv.Itoa(to)
	if most != noMost {
		more += " " + strconv.Itoa(most)
	}
	return fault("range", more+" of "+strconv.Itoa(room))
}

func (h *Heap) Append(l api.Datum, a ...api.Datum) (api.Datum, error) {
	piece, is := h.piece(l)
	if !is || !allRight(a) {
		return api.Datum{}, wrong(api.ErrArg)
	}
	length := len(piece) + len(a)
	if length <= cap(piece) {
		layCopies(piece[len(piece):length], a)
		longer := copied(l)
		longer.Ref.Len = length
		return longer, nil
	}
	room := max(2*cap(piece), length)
	if room > api.MaxRoom {
		return api.Datum{}, wrong(api.ErrArg)
	}
	elements := make([]api.Datum, room)
	copy(elements, piece)
	layCopies(elements[len(piece):], a)
	return h.listOf(l.Type, elements, length)
}

// Copy may be of two pieces of one array, one over the other.
func (h *Heap) Copy(to, from api.Datum) (int, error) {
	under, is := h.piece(to)
	over, too := h.piece(from)
	if !is || !too {
		return 0, wrong(api.ErrArg)
	}
	return copy(under, over), nil
}
