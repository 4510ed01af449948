package machine

import (
	"guise/api"
	"guise/number"
)

const tooLong = ".."

// shown is a value as it is shown; false: that is longer than a text may be.
func (p *program) shown(v value) (string, bool) {
	w := &shower{program: p}
	w.value(v, 0)
	if w.full() {
		return "", false
	}
	return string(w.out), true
}

// printed is a value as print tells it.
func (p *program) printed(v value) (string, bool) {
	if t, is := v.(text); is && t.name == "text" {
		return t.s, len(t.s) <= api.MaxText
	}
	return p.shown(v)
}

// orDots is a text that was shown; dots, if that was too long.
func orDots(s string, fits bool) string {
	if !fits {
		return tooLong
	}
	return s
}

// shower writes what is shown. What leads to itself, or to much, would be very long: as soon as too much stands there, nothing goes on.
type shower struct {
	program *program
	out     []byte
}

func (w *shower) write(s string) { w.out = append(w.out, s...) }

func (w *shower) full() bool { return len(w.out) > api.MaxText }

// value writes one that stands within so many others.
func (w *shower) value(v value, within int) {
	switch {
	case v.kind() <= api.KText:
		w.write(number.Show(datumOf(v)))
	case leadsToNone(v):
		w.write("nil(" + nameOf(v) + ")")
	case v.kind() == api.KFunc:
		w.named(v, "func", func() { w.write("func") })
	case within == api.MaxShown:
		w.write(tooLong)
	default:
		w.inside(v, within+1)
	}
}

// inside writes a value in which others stand, that are within so many then.
func (w *shower) inside(v value, within int) {
	switch x := v.(type) {
	case list:
		w.named(x, "list", func() { w.list(x.elements(), within) })
	case mapping:
		w.named(x, "map", func() { w.entries(x.store, within) })
	case *structure:
		w.fields(x, within)
	case pointer:
		w.write("&")
		w.value(x.read(), within)
	}
}

// named writes a type's name around what is written, if it is not the kind's own.
func (w *shower) named(v value, own string, inner func()) {
	if v.named() == own {
		inner()
		return
	}
	w.write(v.named() + "(")
	inner()
	w.write(")")
}

func (w *shower) list(items []value, within int) {
	w.write("[")
	for i, v := range items {
		if w.full() {
			return
		}
		w.between(i)
		w.value(v, within)
	}
	w.write("]")
}

func (w *shower) entries(s *store, within int) {
	w.write("map{")
	told := 0
	for _, e := range s.entries {
		if w.full() {
			return
		}
		if e.gone {
			continue
		}
		w.between(told)
		w.value(e.key, within)
		w.write(": ")
		w.value(e.held, within)
		told++
	}
	w.write("}")
}

func (w *shower) fields(s *structure, within int) {
	w.write(s.name + "{")
	for i, v := range s.items {
		if w.full() {
			return
		}
		w.between(i)
		w.write(w.program.shapes[s.name].fields[i] + ": ")
		w.value(v, within)
	}
	w.write("}")
}

func (w *shower) between(i int) {
	if i > 0 {
		w.write(", ")
	}
}
