package walk

import (
	"slices"
	"strconv"
	"strings"

	"guise/api"
)

// shownTooLong is what is said of a text that is shown and too long: how long it would be is not looked at.
const shownTooLong = "65537"

// built does a built-in call. by is the function whose defer called the one in which it is written; nil: there is none such.
func (r *run) built(name string, args []value, by *frame) value {
	r.mayBuild(name, args)
	switch name {
	case "append":
		return r.appended(args[0].(list), args[1:])
	case "cap":
		return intOf(cap(args[0].(list).items))
	case "copy":
		return r.copied(args[0].(list).items, args[1].(list).items)
	case "delete":
		r.delete(args[0].(mapping), args[1])
	case "len":
		return intOf(length(args[0]))
	case "make":
		return r.made(args[0].(integer).n)
	case "panic":
		if args[0] == nil {
			panic(r.fault("panic", ""))
		}
		panic(r.throw(args[0]))
	case "print":
		r.print(args)
	case "recover":
		return r.recovered(by)
	case "show":
		return r.show(args[0])
	case "typeof":
		return textOf(nameOf(args[0]))
	}
	return nil
}

// mayBuild: there are as many arguments as a built-in call wants, and they are of the kinds that it wants.
func (r *run) mayBuild(name string, args []value) {
	wanted := 1
	var kinds [2][]int
	switch name {
	case "append":
		kinds[0] = []int{api.KList}
		if len(args) > 0 {
			wanted = len(args)
		}
	case "cap":
		kinds[0] = []int{api.KList}
	case "copy":
		wanted, kinds = 2, [2][]int{{api.KList}, {api.KList}}
	case "delete":
		wanted, kinds[0] = 2, []int{api.KMap}
	case "len":
		kinds[0] = []int{api.KList, api.KMap, api.KText}
	case "make":
		kinds[0] = []int{api.KInt}
	case "print":
		wanted = len(args)
	case "recover":
		wanted = 0
	}
	r.counted(len(args), wanted)
	for i, k := range kinds {
		if k != nil && !slices.Contains(k, kindOf(args[i])) {
			panic(r.fault("operand", name+typesOf(args)))
		}
	}
}

// typesOf is the types of some values, a blank ahead of each.
func typesOf(args []value) string {
	var out strings.Builder
	for _, v := range args {
		out.WriteString(" " + nameOf(v))
	}
	return out.String()
}

func length(v value) int {
	switch x := v.(type) {
	case list:
		return len(x.items)
	case text:
		return len(x.s)
	case mapping:
		if x.store != nil {
			return x.store.len()
		}
	}
	return 0
}

// appended lays values down behind a list's: in its array, if that has room, else in a new one.
func (r *run) appended(l list, more []value) value {
	all := len(l.items) + len(more)
	if all > cap(l.items) {
		room := max(2*cap(l.items), all)
		r.take(room)
		longer := make([]value, len(l.items), room)
		copy(longer, l.items)
		l.items = longer
	}
	l.items = append(l.items, more...)
	return l
}

func (r *run) copied(to, from []value) value {
	r.take(min(len(to), len(from)))
	return intOf(copy(to, from))
}

func (r *run) delete(m mapping, key value) {
	r.mayKey(key)
	if m.store != nil {
		m.store.drop(key)
	}
}

func (r *run) made(n int) value {
	if n < 0 || n > api.MaxMake {
		panic(r.fault("count", strconv.Itoa(n)))
	}
	r.take(n)
	return listOf(make([]value, n))
}

// print keeps no more than there is room for: what is told at once may be very much.
func (r *run) print(args []value) {
	size := max(len(args)-1, 0)
	var shown []string
	for _, v := range args {
		s := r.mustPrint(v)
		if size += len(s); size <= api.MaxRoom {
			shown = append(shown, s)
		}
	}
	r.take(size)
	r.line(strings.Join(shown, " "))
}

// mustPrint is a value as print tells it.
func (r *run) mustPrint(v value) string {
	s, fits := r.printed(v)
	if !fits {
		panic(r.fault("count", shownTooLong))
	}
	return s
}

func (r *run) show(v value) value {
	s, fits := r.shown(v)
	if !fits {
		panic(r.fault("count", shownTooLong))
	}
	r.take(len(s))
	return textOf(s)
}

// recovered is the value with which the function is panicking whose defer called; it is panicking no more.
func (r *run) recovered(by *frame) value {
	if by == nil || !by.panicking {
		return nil
	}
	by.panicking = false
	r.shownEvent(toldRecover, by.thrown)
	return by.thrown
}
