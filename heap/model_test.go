package heap_test

import (
	"fmt"
	"iter"
	"maps"
	"slices"
	"strings"

	"guise/api"
	"guise/number"
	"guise/types"
	"guise/value"
)

// A second way through the chapter: all things are rows of one table, each with its data in one list; a call that refuses something gives
// up by a panic; what is shown comes piece by piece, as long as somebody asks for more.

// cell is a thing: what it is, and the data in it (of a map keys and values in turn).
type cell struct {
	what  string
	data  []api.Datum
	code  int
	boxes []int
}

type model struct {
	cells []cell // by their numbers, less 1; one that is forgotten is nothing
}

// refusal is what a call gives up with.
type refusal struct{ err error }

func unless(is bool, err error) {
	if !is {
		panic(refusal{err})
	}
}

func arg() error { return &api.Wrong{Code: api.ErrArg} }

func panicked(word, form string, more ...any) error {
	return &api.Fault{Word: word, More: fmt.Sprintf(form, more...)}
}

// answered ends a call: its error is what it gave up with.
func answered(err *error) {
	switch r := recover().(type) {
	case nil:
	case refusal:
		*err = r.err
	default:
		panic(r)
	}
}

func right(l ...api.Datum) {
	for _, d := range l {
		unless(value.Right(d), arg())
	}
}

// own is a copy that shares nothing.
func own(l ...api.Datum) []api.Datum {
	var out []api.Datum
	for _, d := range l {
		d.Type, d.S = strings.Clone(d.Type), strings.Clone(d.S)
		d.Ref.Path = slices.Clone(d.Ref.Path)
		d.Items = own(d.Items...)
		out = append(out, d)
	}
	return out
}

func (m *model) cell(n int) cell {
	if n < 1 || n > len(m.cells) {
		return cell{}
	}
	return m.cells[n-1]
}

func (m *model) made(c cell) int {
	m.cells = append(m.cells, c)
	return len(m.cells)
}

var whatOf = map[int]string{api.KPointer: "object", api.KList: "array", api.KMap: "map", api.KFunc: "function"}

// fits is the chapter's sentence, part by part.
func (m *model) fits(d api.Datum) bool {
	if !value.Right(d) {
		return false
	}
	what, leads := whatOf[d.Kind]
	if !leads || d.Ref.Object == 0 {
		return true
	}
	c := m.cell(d.Ref.Object)
	if c.what != what {
		return false
	}
	switch what {
	case "object":
		at := m.at(d)
		return at != nil && at.Type == d.Type
	case "array":
		return len(c.data) >= d.Ref.From+d.Ref.Cap
	}
	return true
}

// at is where the struct stands to which a pointer leads; nil: there is none.
func (m *model) at(p api.Datum) *api.Datum {
	at := &m.cells[p.Ref.Object-1].data[0]
	for _, n := range p.Ref.Path {
		if n < 0 || n >= len(at.Items) || at.Items[n].Kind != api.KStruct {
			return nil
		}
		at = &at.Items[n]
	}
	return at
}

func (m *model) read(kind int, d api.Datum) {
	unless(value.Right(d) && d.Kind == kind && m.fits(d), arg())
}

func (m *model) Object(d api.Datum) (out api.Datum, err error) {
	defer answered(&err)
	right(d)
	unless(d.Kind == api.KStruct, arg())
	return typed(d.Type, pointer(m.made(cell{what: "object", data: own(d)}))), nil
}

func (m *model) List(l []api.Datum) (out api.Datum, err error) {
	defer answered(&err)
	right(l...)
	unless(len(l) <= api.MaxRoom, arg())
	return list(m.made(cell{what: "array", data: own(l...)}), len(l)), nil
}

func (m *model) Map() api.Datum { return mapping(m.made(cell{what: "map"})) }

func (m *model) Box(d api.Datum) (n int, err error) {
	defer answered(&err)
	right(d)
	return m.made(cell{what: "variable", data: own(d)}), nil
}

func (m *model) Func(code int, boxes []int, bound []api.Datum) (out api.Datum, err error) {
	defer answered(&err)
	unless(code >= 0, arg())
	for _, n := range boxes {
		unless(m.cell(n).what == "variable", arg())
	}
	right(bound...)
	return function(m.made(cell{"function", own(bound...), code, slices.Clone(boxes)})), nil
}

func (m *model) Read(p api.Datum) (out api.Datum, err error) {
	defer answered(&err)
	m.read(api.KPointer, p)
	unless(p.Ref.Object > 0, panicked("nil", "pointer"))
	return own(*m.at(p))[0], nil
}

func (m *model) Write(p, d api.Datum) (err error) {
	defer answered(&err)
	m.read(api.KPointer, p)
	right(d)
	unless(p.Ref.Object > 0, panicked("nil", "pointer"))
	unless(d.Kind == api.KStruct && d.Type == p.Type, panicked("conversion", "%s is not %s", number.Name(d), p.Type))
	// It is written at once, and taken back if that is too much.
	at, held := m.at(p), &m.cells[p.Ref.Object-1].data[0]
	stood := *at
	*at = own(d)[0]
	if n := sizeOf(*held); n > api.MaxSize {
		*at = stood
		return panicked("count", "%d", n)
	}
	return nil
}

func (m *model) Part(p api.Datum, field int, name string) (out api.Datum, err error) {
	defer answered(&err)
	m.read(api.KPointer, p)
	unless(p.Ref.Object > 0, panicked("nil", "field %s", name))
	items := m.at(p).Items
	unless(field >= 0 && field < len(items) && items[field].Kind == api.KStruct && items[field].Type == name, arg())
	return typed(name, pointer(p.Ref.Object, slices.Concat(p.Ref.Path, []int{field})...)), nil
}

func (m *model) Open(box int) (api.Datum, bool) {
	if c := m.cell(box); c.what == "variable" {
		return own(c.data...)[0], true
	}
	return none, false
}

func (m *model) Set(box int, d api.Datum) bool {
	if m.cell(box).what != "variable" || !value.Right(d) {
		return false
	}
	m.cells[box-1].data = own(d)
	return true
}

// element is where the element i of a list stands.
func (m *model) element(l api.Datum, i int) *api.Datum {
	unless(i >= 0 && i < l.Ref.Len, panicked("range", "index %d of %d", i, l.Ref.Len))
	return &m.cells[l.Ref.Object-1].data[l.Ref.From+i]
}

func (m *model) At(l api.Datum, i int) (out api.Datum, err error) {
	defer answered(&err)
	m.read(api.KList, l)
	return own(*m.element(l, i))[0], nil
}

func (m *model) Put(l api.Datum, i int, d api.Datum) (err error) {
	defer answered(&err)
	m.read(api.KList, l)
	right(d)
	*m.element(l, i) = own(d)[0]
	return nil
}

func (m *model) Slice(l api.Datum, from, to, most int) (out api.Datum, err error) {
	defer answered(&err)
	m.read(api.KList, l)
	if most == -1 {
		unless(slices.IsSorted([]int{0, from, to, l.Ref.Cap}), panicked("range", "slice %d %d of %d", from, to, l.Ref.Cap))
		most = l.Ref.Cap
	}
	unless(slices.IsSorted([]int{0, from, to, most, l.Ref.Cap}), panicked("range", "slice %d %d %d of %d", from, to, most, l.Ref.Cap))
	if l.Ref.Object > 0 {
		l.Ref.From, l.Ref.Len, l.Ref.Cap = l.Ref.From+from, to-from, most-from
	}
	return own(l)[0], nil
}

func (m *model) Append(l api.Datum, a ...api.Datum) (out api.Datum, err error) {
	defer answered(&err)
	m.read(api.KList, l)
	right(a...)
	l = own(l)[0]
	if len(a) == 0 {
		return l, nil
	}
	length := l.Ref.Len + len(a)
	if length > l.Ref.Cap {
		room := 2 * l.Ref.Cap
		if room < length {
			room = length
		}
		unless(room <= api.MaxRoom, arg())
		data := make([]api.Datum, room)
		for i := range l.Ref.Len {
			data[i] = own(*m.element(l, i))[0]
		}
		l.Ref = api.Ref{Object: m.made(cell{what: "array", data: data}), Len: l.Ref.Len, Cap: room}
	}
	for _, d := range a {
		l.Ref.Len++
		*m.element(l, l.Ref.Len-1) = own(d)[0]
	}
	return l, nil
}

func (m *model) Copy(to, from api.Datum) (n int, err error) {
	defer answered(&err)
	m.read(api.KList, to)
	m.read(api.KList, from)
	var all []api.Datum
	for i := range min(to.Ref.Len, from.Ref.Len) {
		all = append(all, own(*m.element(from, i))...)
	}
	for i, d := range all {
		*m.element(to, i) = d
	}
	return len(all), nil
}

// entry is the place of a key in a map's data; -1: it is not there.
func (m *model) entry(n int, k api.Datum) int {
	data := m.cell(n).data
	for i := 0; i < len(data); i += 2 {
		if is, err := value.Equal(data[i], k); is && err == nil {
			return i
		}
	}
	return -1
}

func (m *model) Get(d, k api.Datum) (out api.Datum, is bool, err error) {
	defer answered(&err)
	m.read(api.KMap, d)
	err = value.Key(k)
	unless(err == nil, err)
	if i := m.entry(d.Ref.Object, k); i >= 0 {
		return own(m.cell(d.Ref.Object).data[i+1])[0], true, nil
	}
	return none, false, nil
}

func (m *model) Lay(d, k, v api.Datum) (err error) {
	defer answered(&err)
	m.read(api.KMap, d)
	right(k, v)
	unless(d.Ref.Object > 0, panicked("nil", "map"))
	err = value.Key(k)
	unless(err == nil, err)
	c := &m.cells[d.Ref.Object-1]
	if i := m.entry(d.Ref.Object, k); i >= 0 {
		c.data[i+1] = own(v)[0]
	} else {
		c.data = append(c.data, own(k, v)...)
	}
	return nil
}

func (m *model) Drop(d, k api.Datum) (err error) {
	defer answered(&err)
	m.read(api.KMap, d)
	err = value.Key(k)
	unless(err == nil, err)
	if i := m.entry(d.Ref.Object, k); i >= 0 {
		c := &m.cells[d.Ref.Object-1]
		c.data = slices.Delete(c.data, i, i+2)
	}
	return nil
}

func (m *model) Size(d api.Datum) int {
	keys, _ := m.Keys(d)
	return len(keys)
}

func (m *model) Keys(d api.Datum) (keys, values []api.Datum) {
	if d.Kind != api.KMap || !m.fits(d) {
		return nil, nil
	}
	for i, d := range own(m.cell(d.Ref.Object).data...) {
		if i%2 == 0 {
			keys = append(keys, d)
		} else {
			values = append(values, d)
		}
	}
	return keys, values
}

func (m *model) Called(f api.Datum) (int, []int, []api.Datum, bool) {
	if f.Kind != api.KFunc || !m.fits(f) || f.Ref.Object == 0 {
		return 0, nil, nil, false
	}
	c := m.cell(f.Ref.Object)
	return c.code, slices.Clone(c.boxes), own(c.data...), true
}

func (m *model) Things() []int {
	var out []int
	for i, c := range m.cells {
		if c.what != "" {
			out = append(out, i+1)
		}
	}
	return out
}

func (m *model) Leads(n int) []int {
	c, all := m.cell(n), map[int]bool{}
	for _, n := range c.boxes {
		all[n] = true
	}
	left := slices.Clone(c.data)
	for len(left) > 0 {
		d := left[0]
		all[d.Ref.Object] = true
		left = append(left[1:], d.Items...)
	}
	delete(all, 0)
	return slices.Sorted(maps.Keys(all))
}

func (m *model) Free(n int) bool {
	if m.cell(n).what == "" {
		return false
	}
	m.cells[n-1] = cell{}
	return true
}

func (m *model) Show(t *types.Table, d api.Datum) string {
	var out strings.Builder
	for s := range m.shown(t, d, 8) {
		out.WriteString(s)
		if out.Len() > 65536 {
			return out.String()[:65537]
		}
	}
	return out.String()
}

// shown tells, piece by piece, a datum that may have so many others within one another.
func (m *model) shown(t *types.Table, d api.Datum, left int) iter.Seq[string] {
	return func(yield func(string) bool) {
		if name := m.plain(d, left); name != "" {
			yield(name)
			return
		}
		parts, forms := m.parts(t, d)
		open, between, end := forms[0], ", ", forms[1]
		if own := map[int]string{api.KList: "list", api.KMap: "map"}[d.Kind]; own != "" && own != d.Type {
			open, end = d.Type+"("+open, end+")"
		}
		if !yield(open) {
			return
		}
		for i, p := range parts {
			if i > 0 && !yield(between) {
				return
			}
			for j, d := range p.data {
				if j == 0 && !yield(p.name) || j > 0 && !yield(": ") {
					return
				}
				for s := range m.shown(t, d, left-1) {
					if !yield(s) {
						return
					}
				}
			}
		}
		yield(end)
	}
}

// plain is what has nothing within it that is shown; empty: it has.
func (m *model) plain(d api.Datum, left int) string {
	switch {
	case !m.fits(d):
		return "?"
	case d.Kind == api.KNil || d.Kind == api.KBool || d.Kind == api.KInt || d.Kind == api.KFloat || d.Kind == api.KText:
		return number.Show(d)
	case d.Kind != api.KStruct && d.Ref.Object == 0:
		return "nil(" + number.Name(d) + ")"
	case d.Kind == api.KFunc && d.Type == "func":
		return "func"
	case d.Kind == api.KFunc:
		return d.Type + "(func)"
	case left == 0:
		return ".."
	}
	return ""
}

type shownPart struct {
	name string
	data []api.Datum
}

// parts are what is within a datum, and what stands ahead of them and behind.
func (m *model) parts(t *types.Table, d api.Datum) (out []shownPart, forms [2]string) {
	switch d.Kind {
	case api.KPointer:
		return []shownPart{{"", []api.Datum{*m.at(d)}}}, [2]string{"&", ""}
	case api.KList:
		for _, d := range m.cell(d.Ref.Object).data[d.Ref.From:][:d.Ref.Len] {
			out = append(out, shownPart{"", []api.Datum{d}})
		}
		return out, [2]string{"[", "]"}
	case api.KMap:
		for pair := range slices.Chunk(m.cell(d.Ref.Object).data, 2) {
			out = append(out, shownPart{"", pair})
		}
		return out, [2]string{"map{", "}"}
	}
	names, _ := t.Fields(d.Type)
	for i, d := range d.Items {
		name := fmt.Sprint(i)
		if i < len(names) {
			name = names[i]
		}
		out = append(out, shownPart{name + ": ", []api.Datum{d}})
	}
	return out, [2]string{d.Type + "{", "}"}
}
