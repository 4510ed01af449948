package heap_test

import (
	"fmt"
	"strings"
	"testing"

	"guise/api"
	"guise/value"
)

// reading are the calls that read a datum of a kind, by the place where it is handed in; each tells its error, or what it says of what is none.
func reading() map[int]map[string]func(t testing.TB, h store, d api.Datum) string {
	type call = func(t testing.TB, h store, d api.Datum) string
	datum := func(what func(h store, d api.Datum) (api.Datum, error)) call {
		return func(t testing.TB, h store, d api.Datum) string {
			t.Helper()
			out, err := what(h, d)
			return says(t, out, err)
		}
	}
	plain := func(what func(h store, d api.Datum) error) call {
		return func(t testing.TB, h store, d api.Datum) string {
			t.Helper()
			return fault(t, what(h, d))
		}
	}
	number := func(what func(h store, d api.Datum) (int, error)) call {
		return func(t testing.TB, h store, d api.Datum) string {
			t.Helper()
			n, err := what(h, d)
			if err != nil && n != 0 {
				t.Errorf("P2: %d beside %v", n, err)
			}
			return fault(t, err)
		}
	}
	return map[int]map[string]call{
		api.KPointer: {
			"Read(p)":                datum(func(h store, d api.Datum) (api.Datum, error) { return h.Read(d) }),
			"Write(p, T)":            plain(func(h store, d api.Datum) error { return h.Write(d, record()) }),
			"Write(p, int)":          plain(func(h store, d api.Datum) error { return h.Write(d, integer(1)) }),
			"Write(p, what is none)": plain(func(h store, d api.Datum) error { return h.Write(d, boolean(2)) }),
			"Part(p, 1, U)":          datum(func(h store, d api.Datum) (api.Datum, error) { return h.Part(d, 1, "U") }),
			"Part(p, -1, x)":         datum(func(h store, d api.Datum) (api.Datum, error) { return h.Part(d, -1, "x") }),
		},
		api.KList: {
			"At(l, 0)":                datum(func(h store, d api.Datum) (api.Datum, error) { return h.At(d, 0) }),
			"At(l, -1)":               datum(func(h store, d api.Datum) (api.Datum, error) { return h.At(d, -1) }),
			"Put(l, 0, nil)":          plain(func(h store, d api.Datum) error { return h.Put(d, 0, none) }),
			"Put(l, 99, nil)":         plain(func(h store, d api.Datum) error { return h.Put(d, 99, none) }),
			"Put(l, 0, what is none)": plain(func(h store, d api.Datum) error { return h.Put(d, 0, boolean(2)) }),
			"Slice(l, 0, 0, -1)":      datum(func(h store, d api.Datum) (api.Datum, error) { return h.Slice(d, 0, 0, -1) }),
			"Slice(l, 2, 1, 99)":      datum(func(h store, d api.Datum) (api.Datum, error) { return h.Slice(d, 2, 1, 99) }),
			"Append(l)":               datum(func(h store, d api.Datum) (api.Datum, error) { return h.Append(d) }),
			"Append(l, 1)":            datum(func(h store, d api.Datum) (api.Datum, error) { return h.Append(d, integer(1)) }),
			"Append(l, what is none)": datum(func(h store, d api.Datum) (api.Datum, error) { return h.Append(d, boolean(2)) }),
			"Copy(to, l)":             number(func(h store, d api.Datum) (int, error) { return h.Copy(d, list(zooArray, 5)) }),
			"Copy(l, from)":           number(func(h store, d api.Datum) (int, error) { return h.Copy(list(zooArray, 5), d) }),
			"Copy(to, nil list)":      number(func(h store, d api.Datum) (int, error) { return h.Copy(d, list(0, 0)) }),
			"Copy(nil list, from)":    number(func(h store, d api.Datum) (int, error) { return h.Copy(list(0, 0), d) }),
			"Copy(to, to)":            number(func(h store, d api.Datum) (int, error) { return h.Copy(d, d) }),
		},
		api.KMap: {
			"Get(m, 1)":               func(t testing.TB, h store, d api.Datum) string { t.Helper(); return got(t, h, d, integer(1)) },
			"Get(m, list)":            func(t testing.TB, h store, d api.Datum) string { t.Helper(); return got(t, h, d, list(0, 0)) },
			"Get(m, what is none)":    func(t testing.TB, h store, d api.Datum) string { t.Helper(); return got(t, h, d, boolean(2)) },
			"Lay(m, 1, 1)":            plain(func(h store, d api.Datum) error { return h.Lay(d, integer(1), integer(1)) }),
			"Lay(m, list, 1)":         plain(func(h store, d api.Datum) error { return h.Lay(d, list(0, 0), integer(1)) }),
			"Lay(m, what is none, 1)": plain(func(h store, d api.Datum) error { return h.Lay(d, boolean(2), integer(1)) }),
			"Lay(m, 1, what is none)": plain(func(h store, d api.Datum) error { return h.Lay(d, integer(1), boolean(2)) }),
			"Drop(m, 1)":              plain(func(h store, d api.Datum) error { return h.Drop(d, integer(1)) }),
			"Drop(m, list)":           plain(func(h store, d api.Datum) error { return h.Drop(d, list(0, 0)) }),
			"Drop(m, what is none)":   plain(func(h store, d api.Datum) error { return h.Drop(d, boolean(2)) }),
		},
	}
}

// What may not stand where it is read: ErrArg, ahead of any fault, and nothing is changed.
func TestWrongInEachPlace(t *testing.T) {
	h := newZoo(t)
	was := dump(t, h)
	for kind, reads := range reading() {
		for name, call := range reads {
			for _, d := range bad(kind) {
				is(t, name+" of "+short(d), call(t, h, d), "wrong")
			}
			is(t, "behind "+name, dump(t, h), was)
		}
	}
	for _, d := range bad(api.KMap) {
		if keys, values := h.Keys(d); h.Size(d) != 0 || len(keys)+len(values) != 0 {
			t.Errorf("P10.7: Size or Keys of %s", short(d))
		}
	}
	for _, d := range bad(api.KFunc) {
		is(t, "P10.8: Called of "+short(d), called(h, d), "0 [] [] false")
	}
	is(t, "behind all", dump(t, h), was)
}

// What fits is taken in each place: the answer is none, or a fault of what leads to none.
func TestRightInEachPlace(t *testing.T) {
	for kind, reads := range reading() {
		for name, call := range reads {
			for _, d := range fitting(kind) {
				h := newZoo(t)
				if got := call(t, h, d); (got == "wrong") != expected(name, d) {
					t.Errorf("%s of %s: %s", name, short(d), got)
				}
			}
		}
	}
}

// expected tells whether ErrArg is told of another reason than the datum that is read.
func expected(name string, d api.Datum) bool {
	switch name {
	case "Part(p, 1, U)":
		return d.Ref.Object != 0 && !value.Same(d, pointer(zooObject))
	case "Part(p, -1, x)":
		return d.Ref.Object != 0
	}
	return strings.Contains(name, "what is none")
}

// laying are the calls that lay a datum down, by its place.
func laying() map[string]func(h store, d api.Datum) error {
	return map[string]func(h store, d api.Datum) error{
		"List(d)":          func(h store, d api.Datum) error { _, err := h.List([]api.Datum{d}); return err },
		"List(.., d)":      func(h store, d api.Datum) error { _, err := h.List([]api.Datum{none, d}); return err },
		"Box(d)":           func(h store, d api.Datum) error { _, err := h.Box(d); return err },
		"Func(.., d)":      func(h store, d api.Datum) error { _, err := h.Func(1, nil, []api.Datum{none, d}); return err },
		"Put(l, 1, d)":     func(h store, d api.Datum) error { return h.Put(list(zooArray, 5), 1, d) },
		"Append(l, d)":     func(h store, d api.Datum) error { _, err := h.Append(piece(zooArray, 1, 1, 2), d); return err },
		"Append(l, .., d)": func(h store, d api.Datum) error { _, err := h.Append(list(zooArray, 5), none, d); return err },
		"Lay(m, 1, d)":     func(h store, d api.Datum) error { return h.Lay(mapping(zooMap), integer(1), d) },
		"Object({d})":      func(h store, d api.Datum) error { _, err := h.Object(record(none, d)); return err },
		"Write(p, {d})":    func(h store, d api.Datum) error { return h.Write(pointer(zooObject), record(none, d)) },
		"Set(box, d)": func(h store, d api.Datum) error {
			if !h.Set(zooVariable, d) {
				return &api.Wrong{Code: api.ErrArg}
			}
			return nil
		},
	}
}

// Data that are laid down need only be right: whether they fit nobody asks.
func TestLaidDown(t *testing.T) {
	for name, call := range laying() {
		for kind := api.KList; kind <= api.KPointer; kind++ {
			if kind == api.KStruct {
				continue
			}
			for _, d := range append(unfit(kind), fitting(kind)...) {
				h := newZoo(t)
				if err := call(h, d); err != nil {
					t.Errorf("%s of %s: %v", name, short(d), err)
				}
			}
		}
		h := newZoo(t)
		was := dump(t, h)
		for _, d := range wrong() {
			is(t, name+" of "+short(d), fault(t, call(h, d)), "wrong")
		}
		is(t, "behind "+name, dump(t, h), was)
		if n, _ := h.Box(none); n != zooNext {
			t.Errorf("%s took a number beside an error: %d is the next", name, n)
		}
	}
}

// All that is answered beside an error is zero; what is asked again answers the same.
func TestAskedAgain(t *testing.T) {
	h := newZoo(t)
	for _, l := range []api.Datum{list(0, 0), list(zooArray, 5), list(zooArray, 6)} {
		for range 3 {
			n, err := h.Copy(l, list(zooArray, 3))
			is(t, "P10.6: Copy", fmt.Sprint(n, fault(t, err)), map[int]string{0: "0", 5: "3", 6: "0wrong"}[l.Ref.Len])
		}
	}
}
