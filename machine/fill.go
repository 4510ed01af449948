package machine

import (
	"strings"

	"guise/api"
	"guise/types"
)

// value reads one.
func (r *reader) value() value {
	if x, is := r.thing().(value); is {
		return x
	}
	panic(noImage{})
}

func (r *reader) values() []value {
	n := r.count()
	out := make([]value, 0, min(n, 1000))
	for range n {
		out = append(out, r.value())
	}
	return out
}

// thing reads a value, a place or a turn.
func (r *reader) thing() thing {
	tag := int(r.byte())
	switch {
	case tag == api.KNil:
		return nothing{}
	case tag >= tagCount:
		return r.turn(tag)
	case tag >= tagCell:
		return r.place(tag)
	}
	return r.typed(tag)
}

// typed reads a value that has a type: the table knows it.
func (r *reader) typed(tag int) value {
	kind, name := tag&^declared, ownName(tag&^declared)
	if tag >= declared {
		name = r.text()
	}
	if kind == api.KPointer {
		return r.pointer(name)
	}
	under, known := r.machine.table.Under(name)
	must(known && under == kind)
	t := typed{name}
	switch kind {
	case api.KBool:
		return boolean{t, r.flag()}
	case api.KInt:
		return integer{t, r.signed()}
	case api.KFloat:
		return r.float(t)
	case api.KText:
		return text{t, r.text()}
	case api.KList:
		return r.list(t)
	case api.KMap:
		return mapping{t, r.storeOrNone()}
	case api.KFunc:
		return function{t, r.callee()}
	}
	return r.structure(name)
}

// float: of the NaNs there is one.
func (r *reader) float(t typed) value {
	bits := uint64(r.number())
	must(bits&^(1<<63) <= 0x7ff0000000000000 || bits == 0x7ff8000000000001)
	return float{t, bits}
}

func (r *reader) list(t typed) list {
	if r.isNone() {
		return list{typed: t}
	}
	l := list{t, r.array(), span{r.upTo(api.MaxRoom), r.upTo(api.MaxRoom), r.upTo(api.MaxRoom)}}
	r.lists = append(r.lists, l)
	return l
}

func (r *reader) storeOrNone() *store {
	if r.isNone() {
		return nil
	}
	return r.store()
}

func (r *reader) pointer(name string) value {
	_, known := r.machine.shapes[name]
	must(known)
	p := pointer{typed: typed{name}}
	if r.isNone() {
		return p
	}
	p.object = r.object()
	for range r.upTo(api.MaxSize) {
		p.path = append(p.path, r.upTo(api.MaxFields-1))
	}
	r.points = append(r.points, p)
	return p
}

// structure: what stands in embedded fields may stand there.
func (r *reader) structure(name string) value {
	r.within++
	must(r.within <= api.MaxSize)
	shape := r.machine.shapes[name]
	items := make([]value, len(shape.fields))
	for i, field := range shape.fields {
		v := r.value()
		switch shape.embeds[i] {
		case types.EmbedValue:
			must(r.machine.holds(v, field, false))
		case types.EmbedPointer:
			must(r.machine.holds(v, field, true))
		case types.EmbedProtocol:
			must(isNil(v) || r.machine.holds(v, field, false))
		}
		items[i] = v
	}
	r.within--
	s := newStructure(name, items)
	must(s.size <= api.MaxSize)
	return s
}

func (r *reader) callee() callee {
	switch r.byte() {
	case noCallee:
		return nil
	case tagRoutine:
		f := r.routine()
		must(f.isDeclared())
		return f
	case tagClosure:
		return met(r, func() *closure { return &closure{} })
	case tagBound:
		return met(r, func() *bound { return &bound{} })
	case tagExpression:
		return met(r, func() *expression { return &expression{} })
	case tagFaultError:
		return met(r, func() *faultError { return &faultError{} })
	}
	panic(noImage{})
}

func (r *reader) routine() *routine {
	return r.machine.routines[r.upTo(len(r.machine.routines)-1)]
}

// fill reads what a node holds.
func (r *reader) fill(n node) {
	switch x := n.(type) {
	case *variable:
		x.held = r.value()
	case *object:
		s, is := r.value().(*structure)
		must(is)
		x.held = s
	case *array:
		x.elements = r.values()
		must(len(x.elements) <= api.MaxRoom)
	case *store:
		for range r.count() {
			key := r.key()
			must(x.find(key) == nil)
			x.add(key, r.value())
		}
	case *closure:
		x.routine = r.routine()
		must(x.around >= 0)
		x.taken = r.variables(len(x.takes))
	case *bound:
		r.bound(x)
	case *expression:
		r.expression(x)
	case *faultError:
		p, is := r.value().(pointer)
		must(is && p.name == "fault")
		x.receiver = p
	}
}

func (r *reader) key() value {
	key := r.value()
	_, unfit := equal(key, key)
	must(unfit == "")
	return key
}

// bound: the function is a method of its receiver's type, and wants such a one.
func (r *reader) bound(x *bound) {
	x.routine = r.routine()
	x.receiver = r.value()
	name, method, _ := strings.Cut(x.name, ".")
	must(x.isDeclared() && x.receiver.named() == name)
	found := r.machine.find(x.receiver, method)
	must(found.Kind == api.FoundMethod && found.Type == name && found.Pointer == isPointer(x.receiver))
}

func (r *reader) expression(x *expression) {
	x.question = question{r.text(), r.flag(), r.text()}
	x.found = r.machine.cache.Find(x.name, x.pointer, x.what)
	must(x.found.Kind == api.FoundMethod || x.found.Kind == api.FoundProtocol)
}

func (r *reader) place(tag int) place {
	switch tag {
	case tagCell:
		return cell{r.variable()}
	case tagElement:
		x := element{r.array(), r.upTo(api.MaxRoom)}
		r.lists = append(r.lists, list{array: x.of, span: span{x.at, 1, 1}})
		return x
	case tagUnderKey:
		return underKey{r.store(), r.key()}
	case tagTarget:
		p, is := r.value().(pointer)
		must(is && p.object != nil)
		return target{p}
	}
	root := int(r.byte())
	must(root == tagCell || root == tagElement || root == tagTarget)
	x := member{root: r.place(root)}
	n := r.count()
	must(n > 0)
	for range n {
		name := r.text()
		shape, known := r.machine.shapes[name]
		must(known)
		x.names, x.path = append(x.names, name), append(x.path, r.upTo(len(shape.fields)-1))
	}
	return x
}

func (r *reader) turn(tag int) thing {
	switch tag {
	case tagCount:
		x := &count{upTo: r.upTo(1<<63 - 1)}
		x.now = r.upTo(x.upTo)
		return x
	case tagBytes:
		x := &bytes{of: r.text()}
		x.now = r.upTo(len(x.of))
		return x
	case tagElements:
		l, is := r.value().(list)
		must(is)
		return &elements{l, r.upTo(l.length)}
	case tagKeys:
		return r.keys()
	}
	panic(noImage{})
}

func (r *reader) keys() *keys {
	x := &keys{of: r.storeOrNone()}
	now := r.number()
	for range r.count() {
		x.were = append(x.were, entryThen{r.key(), r.value()})
	}
	must(now >= 0 && now <= len(x.were) && (x.of != nil || len(x.were) == 0))
	x.now = now
	return x
}

// call reads one; the first one is the program's beginning.
func (r *reader) call(first bool) *call {
	c := newCall(r.routine())
	must(first == (c.number == 0))
	c.from = origin{r.upTo(api.MaxSource), r.text()}
	must(r.mayBeTold(c.from.title, c.name))
	c.next = r.upTo(len(c.code))
	c.hand = r.upTo(api.MaxSource)
	c.ending, c.panicking = r.flag(), r.flag()
	c.answer, c.thrown = r.value(), r.value()
	must((c.ending || isNil(c.answer)) && (c.panicking || isNil(c.thrown)))
	r.slots(c)
	c.taken = r.variables(len(c.takes))
	for range r.count() {
		c.stack = append(c.stack, r.thing())
	}
	for range r.count() {
		c.laid = append(c.laid, r.laid())
	}
	return c
}

// mayBeTold: a function is told by its name, or, of a method expression that an embedded protocol gave, by that protocol's.
func (r *reader) mayBeTold(title, name string) bool {
	if title == name {
		return true
	}
	of, method, _ := strings.Cut(title, ".")
	_, same, dotted := strings.Cut(name, ".")
	wants, _ := r.machine.table.Wants(of)
	for _, m := range wants {
		if dotted && m.Name == method && method == same {
			return true
		}
	}
	return false
}

// slots: those of the parameters have a variable.
func (r *reader) slots(c *call) {
	for range r.count() {
		slot := r.upTo(c.routine.slots - 1)
		must(slot >= len(c.slots))
		c.give(slot, r.variable())
	}
	for i := range c.params {
		must(c.given(i) != nil)
	}
}

func (r *reader) laid() laid {
	switch r.byte() {
	case tagCall:
		at := r.upTo(api.MaxSource)
		called := r.value()
		must(isNil(called) || called.kind() == api.KFunc)
		return laidCall{called, r.values(), at}
	case tagBuilt:
		name := r.text()
		must(builtOf(name).do != nil)
		return laidBuilt{name, r.values()}
	}
	panic(noImage{})
}
