package walk_test

import (
	"fmt"
	"slices"
	"strings"

	"guise/api"
	"guise/assert"
	"guise/number"
)

// modelPlace is where something can be laid down: a variable, what a pointer leads to, an element, a key; or a field there, along a path.
type modelPlace struct {
	kind  string
	box   int
	of    api.Datum
	key   api.Datum
	names []string
	path  []int
}

func (m *model) place(f *modelFrame, n api.Node) modelPlace {
	switch n.Kind {
	case api.NName:
		box, _ := m.find(f, n.Text)
		return modelPlace{kind: "variable", box: box}
	case api.NUnary:
		p := m.eval(f, n.Kids[0])
		m.unary("*", p)
		return modelPlace{kind: "pointer", of: p}
	case api.NIndex:
		e := m.eval(f, n.Kids[0])
		return m.placeIndex(e, m.eval(f, n.Kids[1]))
	}
	of := n.Kids[0]
	if _, _, is := m.isType(f, of); is {
		panic(m.fault("place", ""))
	}
	var at *modelPlace
	var e api.Datum
	_, variable := m.find(f, of.Text)
	if of.Kind == api.NName && variable || of.Kind == api.NIndex || of.Kind == api.NSelect || of.Kind == api.NUnary && of.Text == "*" {
		p := m.place(f, of)
		at, e = &p, m.read(p)
	} else {
		e = m.eval(f, of)
	}
	return m.placeField(e, at, n.Text)
}

func (m *model) placeIndex(e, k api.Datum) modelPlace {
	switch {
	case e.Kind == api.KList && k.Kind == api.KInt:
		_, err := m.heap.At(e, k.N)
		m.right(err)
		return modelPlace{kind: "element", of: e, key: k}
	case e.Kind == api.KMap:
		if e.Ref.Object == 0 {
			panic(m.fault("nil", "map"))
		}
		_, _, err := m.heap.Get(e, k)
		m.right(err)
		return modelPlace{kind: "key", of: e, key: k}
	}
	panic(m.fault("operand", "[] "+number.Name(e)+" "+number.Name(k)))
}

func (m *model) placeField(e api.Datum, at *modelPlace, name string) modelPlace {
	if e.Kind == api.KNil {
		panic(m.fault("nil", "field "+name))
	}
	found := m.table.Find(e.Type, e.Kind == api.KPointer, name)
	if found.Kind == 0 || found.Kind == api.FoundTwice {
		_, err := assert.Select(m.table, e, name)
		m.right(err)
	}
	if found.Kind != api.FoundField || e.Kind == api.KStruct && (at == nil || at.kind == "key") {
		panic(m.fault("place", ""))
	}
	var out modelPlace
	if e.Kind == api.KStruct {
		out = *at
	}
	for _, field := range found.Path {
		if e.Kind == api.KPointer {
			out = modelPlace{kind: "pointer", of: e}
			e = m.open(e, "field "+name)
		}
		out.names = append(slices.Clone(out.names), e.Type)
		out.path = append(slices.Clone(out.path), field)
		e = e.Items[field]
	}
	return out
}

func (m *model) root(p modelPlace) api.Datum {
	var v api.Datum
	var err error
	switch p.kind {
	case "variable":
		v, _ = m.heap.Open(p.box)
	case "pointer":
		v, err = m.heap.Read(p.of)
	case "element":
		v, err = m.heap.At(p.of, p.key.N)
	case "key":
		v, _, err = m.heap.Get(p.of, p.key)
	}
	m.right(err)
	return v
}

// outermost is what stands there as a whole: of a part the object's.
func (m *model) outermost(p modelPlace) api.Datum {
	if p.kind == "pointer" {
		p.of = api.Datum{Kind: api.KPointer, Type: m.objects[p.of.Ref.Object], Ref: api.Ref{Object: p.of.Ref.Object}}
	}
	return m.root(p)
}

// within is the datum at the end of a path in one that is at hand.
func (m *model) within(p modelPlace, v *api.Datum) *api.Datum {
	for i, field := range p.path {
		if v.Kind != api.KStruct || v.Type != p.names[i] {
			panic(m.fault("place", ""))
		}
		v = &v.Items[field]
	}
	return v
}

func (m *model) read(p modelPlace) api.Datum {
	root := m.root(p)
	return *m.within(p, &root)
}

func (m *model) lay(p modelPlace, v api.Datum) {
	root := m.root(p)
	at := m.within(p, &root)
	if last := len(p.path) - 1; last >= 0 {
		m.mayStand(p.names[last], p.path[last], v)
	} else if p.kind == "pointer" {
		_, err := assert.Must(m.table, v, p.of.Type, false)
		m.right(err)
	}
	size := -modelSize(root)
	*at = v
	size += modelSize(root)
	if size += modelSize(m.outermost(p)); size > api.MaxSize {
		panic(m.fault("count", fmt.Sprint(size)))
	}
	var err error
	switch p.kind {
	case "variable":
		m.heap.Set(p.box, root)
	case "pointer":
		err = m.heap.Write(p.of, root)
	case "element":
		err = m.heap.Put(p.of, p.key.N, root)
	case "key":
		m.layKey(p.of, p.key, root)
	}
	m.right(err)
}

func (m *model) mustPrint(v api.Datum) string {
	s := m.printed(v)
	if len(s) > api.MaxText {
		panic(m.fault("count", "65537"))
	}
	return s
}

// wantsOf is how many arguments a built-in call wants, and of which kinds; -1: any number.
func wantsOf(name string, came int) (int, [][]int) {
	switch name {
	case "append":
		return max(came, 1), [][]int{{api.KList}}
	case "cap":
		return 1, [][]int{{api.KList}}
	case "copy":
		return 2, [][]int{{api.KList}, {api.KList}}
	case "delete":
		return 2, [][]int{{api.KMap}}
	case "len":
		return 1, [][]int{{api.KList, api.KMap, api.KText}}
	case "make":
		return 1, [][]int{{api.KInt}}
	case "print":
		return came, nil
	case "recover":
		return 0, nil
	}
	return 1, nil
}

func (m *model) built(name string, a []api.Datum, by *modelFrame) api.Datum {
	wants, kinds := wantsOf(name, len(a))
	if len(a) != wants {
		panic(m.fault("arguments", fmt.Sprintf("%d for %d", len(a), wants)))
	}
	for i, k := range kinds {
		if !slices.Contains(k, a[i].Kind) {
			all := []string{name}
			for _, v := range a {
				all = append(all, number.Name(v))
			}
			panic(m.fault("operand", strings.Join(all, " ")))
		}
	}
	switch name {
	case "print":
		var shown []string
		for _, v := range a {
			shown = append(shown, m.mustPrint(v))
		}
		line := strings.Join(shown, " ")
		m.take(len(line))
		m.out = append(m.out, line)
		m.event(7, m.top.hand, line)
	case "show":
		s := m.heap.Show(m.table, a[0])
		if len(s) > api.MaxText {
			panic(m.fault("count", "65537"))
		}
		m.take(len(s))
		return modelText(s)
	case "typeof":
		return modelText(number.Name(a[0]))
	case "panic":
		if a[0].Kind == api.KNil {
			panic(m.fault("panic", ""))
		}
		panic(m.throw(a[0]))
	case "recover":
		if by == nil || !by.panicking {
			return api.Datum{}
		}
		by.panicking = false
		m.event(6, m.top.hand, m.shown(by.thrown))
		return by.thrown
	default:
		return m.builtOfThings(name, a)
	}
	return api.Datum{}
}

func (m *model) builtOfThings(name string, a []api.Datum) api.Datum {
	switch name {
	case "len":
		switch a[0].Kind {
		case api.KMap:
			return modelInt(m.heap.Size(a[0]))
		case api.KText:
			return modelInt(len(a[0].S))
		}
		return modelInt(a[0].Ref.Len)
	case "cap":
		return modelInt(a[0].Ref.Cap)
	case "append":
		if all := a[0].Ref.Len + len(a) - 1; len(a) > 1 && all > a[0].Ref.Cap {
			m.take(max(all, 2*a[0].Ref.Cap))
		}
		l, err := m.heap.Append(a[0], a[1:]...)
		m.right(err)
		return l
	case "copy":
		m.take(min(a[0].Ref.Len, a[1].Ref.Len))
		n, err := m.heap.Copy(a[0], a[1])
		m.right(err)
		return modelInt(n)
	case "delete":
		m.right(m.heap.Drop(a[0], a[1]))
		return api.Datum{}
	}
	if a[0].N < 0 || a[0].N > api.MaxMake {
		panic(m.fault("count", fmt.Sprint(a[0].N)))
	}
	m.take(a[0].N)
	l, err := m.heap.List(make([]api.Datum, a[0].N))
	m.right(err)
	return l
}
