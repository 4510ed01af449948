package machine_test

import (
	"slices"
	"strings"

	"guise/api"
)

// builtIn is what a built-in call wants: how many arguments, and of which kinds the first ones.
type builtIn struct {
	wants int // -1: any number; -2: one or more
	kinds [][]int
	do    func(m *player, a []api.Datum, by *playing) api.Datum
}

func builtIns() map[string]builtIn {
	list, mapping := []int{api.KList}, []int{api.KMap}
	return map[string]builtIn{
		"append": {-2, [][]int{list}, (*player).appended},
		"cap":    {1, [][]int{list}, func(m *player, a []api.Datum, by *playing) api.Datum { return integer(a[0].Ref.Cap) }},
		"copy": {2, [][]int{list, list}, func(m *player, a []api.Datum, by *playing) api.Datum {
			m.take(min(a[0].Ref.Len, a[1].Ref.Len))
			n, err := m.heap.Copy(a[0], a[1])
			m.right(err)
			return integer(n)
		}},
		"delete": {2, [][]int{mapping}, func(m *player, a []api.Datum, by *playing) api.Datum {
			m.right(m.heap.Drop(a[0], a[1]))
			return api.Datum{}
		}},
		"len": {1, [][]int{{api.KList, api.KMap, api.KText}}, func(m *player, a []api.Datum, by *playing) api.Datum {
			return integer(a[0].Ref.Len + m.heap.Size(a[0]) + len(a[0].S))
		}},
		"make": {1, [][]int{{api.KInt}}, func(m *player, a []api.Datum, by *playing) api.Datum {
			if a[0].N < 0 || a[0].N > api.MaxMake {
				m.fault("count", a[0].N)
			}
			m.take(a[0].N)
			l, err := m.heap.List(make([]api.Datum, a[0].N))
			m.right(err)
			return l
		}},
		"panic": {1, nil, func(m *player, a []api.Datum, by *playing) api.Datum {
			if a[0].Kind == api.KNil {
				m.fault("panic")
			}
			panic(m.throw(a[0]))
		}},
		"print":   {-1, nil, (*player).print},
		"recover": {0, nil, (*player).recovered},
		"show":    {1, nil, func(m *player, a []api.Datum, by *playing) api.Datum { return m.telling(m.heap.Show(m.table, a[0])) }},
		"typeof":  {1, nil, func(m *player, a []api.Datum, by *playing) api.Datum { return text(typeOf(a[0])) }},
	}
}

func (m *player) built(name string, a []api.Datum, by *playing) api.Datum {
	b := allBuiltIns[name]
	if wants := b.wants; wants >= 0 && len(a) != wants || wants == -2 && len(a) == 0 {
		m.fault("arguments", len(a), "for", max(wants, -wants-1))
	}
	for i, kinds := range b.kinds {
		if !slices.Contains(kinds, a[i].Kind) {
			words := []any{name}
			for _, v := range a {
				words = append(words, typeOf(v))
			}
			m.fault("operand", words...)
		}
	}
	return b.do(m, a, by)
}

func (m *player) appended(a []api.Datum, by *playing) api.Datum {
	l, more := a[0], a[1:]
	if all := l.Ref.Len + len(more); all > l.Ref.Cap {
		m.take(max(all, 2*l.Ref.Cap))
	}
	out, err := m.heap.Append(l, more...)
	m.right(err)
	return out
}

func (m *player) print(a []api.Datum, by *playing) api.Datum {
	var words []string
	for _, v := range a {
		words = append(words, m.mustPrint(v))
	}
	line := strings.Join(words, " ")
	m.take(len(line))
	m.out = append(m.out, line)
	m.event(7, m.top.hand, line)
	return api.Datum{}
}

func (m *player) recovered(a []api.Datum, by *playing) api.Datum {
	if by == nil || !by.panicking {
		return api.Datum{}
	}
	by.panicking, by.answer = false, api.Datum{}
	m.event(6, m.top.hand, m.shown(by.thrown))
	return by.thrown
}
