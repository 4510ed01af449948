package heap

import (
	"strconv"

	"guise/api"
	"guise/number"
	"guise/types"
)

// Show writes a value.
func (h *Heap) Show(t *types.Table, d api.Datum) string {
	w := &writer{heap: h, table: t}
	w.datum(d, 0)
	return string(w.out[:min(len(w.out), api.MaxText+1)])
}

// writer writes what is shown. What leads to itself, or to much, would be very long: as soon as more stands there than is told, nothing goes on.
type writer struct {
	heap  *Heap
	table *types.Table
	out   []byte
}

func (w *writer) write(s string) { w.out = append(w.out, s...) }

func (w *writer) full() bool { return len(w.out) > api.MaxText }

// datum writes one that stands within so many others.
func (w *writer) datum(d api.Datum, within int) {
	switch {
	case !w.heap.fits(d):
		w.write("?")
	case d.Kind <= api.KText:
		w.write(number.Show(d))
	case d.Kind != api.KStruct && d.Ref.Object == 0:
		w.write("nil(" + number.Name(d) + ")")
	case d.Kind == api.KFunc:
		w.named(d.Type, "func", func() { w.write("func") })
	case within == api.MaxShown:
		w.write("..")
	default:
		w.inside(d, within+1)
	}
}

// inside writes a datum in which others stand, that are within so many then.
func (w *writer) inside(d api.Datum, within int) {
	switch d.Kind {
	case api.KList:
		w.named(d.Type, "list", func() { w.list(d, within) })
	case api.KMap:
		w.named(d.Type, "map", func() { w.entries(d, within) })
	case api.KStruct:
		w.fields(d, within)
	case api.KPointer:
		w.write("&")
		o, _ := w.heap.object(d)
		part, _ := partOf(o.held, d.Ref.Path...)
		w.datum(part, within)
	}
}

// named writes a type's name around what is written, if it is not the kind's own.
func (w *writer) named(name, own string, inner func()) {
	if name == own {
		inner()
		return
	}
	w.write(name + "(")
	inner()
	w.write(")")
}

func (w *writer) list(l api.Datum, within int) {
	piece, _ := w.heap.piece(l)
	w.write("[")
	for i, d := range piece {
		if w.full() {
			return
		}
		w.between(i)
		w.datum(d, within)
	}
	w.write("]")
}

func (w *writer) entries(m api.Datum, within int) {
	t, _ := w.heap.mapping(m)
	w.write("map{")
	i := 0
	for k, v := range t.All() {
		if w.full() {
			return
		}
		w.between(i)
		w.datum(k, within)
		w.write(": ")
		w.datum(v, within)
		i++
	}
	w.write("}")
}

func (w *writer) fields(d api.Datum, within int) {
	names := w.names(d.Type)
	w.write(d.Type + "{")
	for i, item := range d.Items {
		if w.full() {
			return
		}
		w.between(i)
		if i < len(names) {
			w.write(names[i] + ": ")
		} else {
			w.write(strconv.Itoa(i) + ": ")
		}
		w.datum(item, within)
	}
	w.write("}")
}

func (w *writer) between(i int) {
	if i > 0 {
		w.write(", ")
	}
}

// names are the fields' that the table tells of a type.
func (w *writer) names(name string) []string {
	if w.table == nil {
		return nil
	}
	names, _ := w.table.Fields(name)
	return names
}
