package machine

import (
	"slices"
	"strconv"
	"strings"

	"guise/api"
)

// shownTooLong is what is said of a text that is shown and too long: how long it would be is not looked at.
const shownTooLong = "65537"

// built is a built-in call: how many arguments it wants, of which kinds the first ones are, and what it does.
type built struct {
	wants func(came int) int
	kinds [][]int
	do    func(m *Machine, args []value) value
}

// builtOf is the built-in call of a name; none, if there is no such one.
func builtOf(name string) built {
	list := []int{api.KList}
	switch name {
	case "append":
		return built{atLeastOne, [][]int{list}, (*Machine).appended}
	case "cap":
		return built{one, [][]int{list}, (*Machine).capacity}
	case "copy":
		return built{two, [][]int{list, list}, (*Machine).copied}
	case "delete":
		return built{two, [][]int{{api.KMap}}, (*Machine).deleted}
	case "len":
		return built{one, [][]int{{api.KList, api.KMap, api.KText}}, (*Machine).length}
	case "make":
		return built{one, [][]int{{api.KInt}}, (*Machine).madeList}
	case "panic":
		return built{one, nil, (*Machine).panics}
	case "print":
		return built{asMany, nil, (*Machine).prints}
	case "recover":
		return built{none, nil, (*Machine).recovered}
	case "show":
		return built{one, nil, (*Machine).show}
	case "typeof":
		return built{one, nil, (*Machine).typeOf}
	}
	return built{}
}

func none(int) int            { return 0 }
func one(int) int             { return 1 }
func two(int) int             { return 2 }
func asMany(came int) int     { return came }
func atLeastOne(came int) int { return max(came, 1) }

func (m *Machine) builtIn(c *call, in *inst) { c.push(m.built(in.Text, c.values(in.A))) }

func (m *Machine) built(name string, args []value) value {
	b := builtOf(name)
	m.counted(len(args), b.wants(len(args)))
	for i, kinds := range b.kinds {
		if !slices.Contains(kinds, args[i].kind()) {
			panic(m.fault("operand", name+typesOf(args)))
		}
	}
	return b.do(m, args)
}

// typesOf is the types of some values, a blank ahead of each.
func typesOf(args []value) string {
	var out strings.Builder
	for _, v := range args {
		out.WriteString(" " + nameOf(v))
	}
	return out.String()
}

// appended lays values down behind a list's: in its array, if that has room, else in a new one.
func (m *Machine) appended(args []value) value {
	l, more := args[0].(list), args[1:]
	if len(more) == 0 {
		return l
	}
	all := l.length + len(more)
	if all > l.capacity {
		room := max(2*l.capacity, all)
		m.take(room)
		elements := nils(room)
		copy(elements, l.elements())
		l = m.newList(l.name, elements, l.length)
	}
	copy(l.array.elements[l.from+l.length:], more)
	l.length = all
	return l
}

func (m *Machine) capacity(args []value) value { return intOf(args[0].(list).capacity) }

func (m *Machine) copied(args []value) value {
	to, from := args[0].(list), args[1].(list)
	n := min(to.length, from.length)
	m.take(n)
	copy(to.elements(), from.elements())
	return intOf(n)
}

func (m *Machine) deleted(args []value) value {
	m.mayKey(args[1])
	if x := args[0].(mapping); x.store != nil {
		x.store.drop(args[1])
	}
	return nothing{}
}

func (m *Machine) length(args []value) value {
	switch x := args[0].(type) {
	case list:
		return intOf(x.length)
	case text:
		return intOf(len(x.s))
	case mapping:
		if x.store != nil {
			return intOf(x.store.len())
		}
	}
	return intOf(0)
}

func (m *Machine) madeList(args []value) value {
	n := args[0].(integer).n
	if n < 0 || n > api.MaxMake {
		panic(m.fault("count", strconv.Itoa(n)))
	}
	m.take(n)
	return m.newList("list", nils(n), n)
}

func (m *Machine) panics(args []value) value {
	if isNil(args[0]) {
		panic(m.fault("panic", ""))
	}
	panic(m.throw(args[0]))
}

// prints keeps no more than there is room for: what is told at once may be very much.
func (m *Machine) prints(args []value) value {
	size := max(len(args)-1, 0)
	var shown []string
	for _, v := range args {
		s := m.mustPrint(v)
		if size += len(s); size <= api.MaxRoom {
			shown = append(shown, s)
		}
	}
	m.take(size)
	line := strings.Join(shown, " ")
	m.out = append(m.out, line)
	m.event(toldLine, m.top().hand, line)
	return nothing{}
}

// mustPrint is a value as print tells it.
func (m *Machine) mustPrint(v value) string {
	s, fits := m.printed(v)
	if !fits {
		panic(m.fault("count", shownTooLong))
	}
	return s
}

func (m *Machine) show(args []value) value {
	s, fits := m.shown(args[0])
	if !fits {
		panic(m.fault("count", shownTooLong))
	}
	m.take(len(s))
	return textOf(s)
}

func (m *Machine) typeOf(args []value) value { return textOf(nameOf(args[0])) }

// recovered is the value with which the call around this one is panicking, which is panicking no more: only what it laid down is run within such a one.
func (m *Machine) recovered([]value) value {
	if len(m.calls) < 2 {
		return nothing{}
	}
	around := m.calls[len(m.calls)-2]
	if !around.panicking {
		return nothing{}
	}
	v := around.calm()
	m.shownEvent(toldRecover, v)
	return v
}
