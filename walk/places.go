package walk

import (
	"strconv"

	"guise/api"
)

// place is where something can be laid down.
type place interface {
	read(r *run) value
	lay(r *run, v value)
}

func (p *variable) read(*run) value { return p.held }

func (p *variable) lay(r *run, v value) {
	r.sized(v)
	p.held = v
}

// element is one of a list's array.
type element struct {
	items []value
	at    int
}

func (p element) read(*run) value { return p.items[p.at] }

func (p element) lay(r *run, v value) {
	r.sized(v)
	p.items[p.at] = v
}

// underKey is what lies under a map's key.
type underKey struct {
	store *store
	key   value
}

func (p underKey) read(*run) value {
	if e := p.store.find(p.key); e != nil {
		return e.held
	}
	return nil
}

func (p underKey) lay(r *run, v value) { r.put(p.store, p.key, v) }

// target is what a pointer leads to.
type target struct{ pointer }

func (p target) read(*run) value { return p.pointer.read() }

// lay asks for the size of all that the object would hold then.
func (p target) lay(r *run, v value) {
	r.must(v, p.name, false)
	whole := p.object.held.with(p.path, v)
	r.sized(whole)
	p.object.held = whole
}

// member is a field of the struct that stands at a place, along a path of fields of structs of these types.
type member struct {
	root  place
	names []string
	path  []int
}

func (p member) read(r *run) value {
	v := p.root.read(r)
	for i, field := range p.path {
		s, is := v.(*structure)
		if !is || s.name != p.names[i] {
			panic(r.fault("place", ""))
		}
		v = s.items[field]
	}
	return v
}

func (p member) lay(r *run, v value) {
	p.read(r) // what stood around the field may be something else by now
	last := len(p.path) - 1
	r.mayStand(p.names[last], p.path[last], v)
	p.root.lay(r, p.root.read(r).(*structure).with(p.path, v))
}

// inside is the place of a field of what stands at this one.
func (p member) inside(name string, field int) member {
	p.names = append(p.names, name)
	p.path = append(p.path, field)
	return p
}

// sized: what is laid down is no larger than a struct may be.
func (r *run) sized(v value) {
	if size := sizeOf(v); size > api.MaxSize {
		panic(r.fault("count", strconv.Itoa(size)))
	}
}

// put lays something under a key that may be one.
func (r *run) put(s *store, key, v value) {
	if e := s.find(key); e != nil {
		e.held = v
		return
	}
	r.take(2)
	s.add(key, v)
}

// mayKey: a value may be a key.
func (r *run) mayKey(v value) {
	if _, unfit := equal(v, v); unfit != "" {
		panic(r.fault("key", unfit))
	}
}

// fieldOf is the place of a field of a value, that stands at a place, or at none (nil).
func (r *run) fieldOf(v value, at place, name string) place {
	found := r.there(v, name)
	_, keyed := at.(underKey)
	_, isPointer := v.(pointer)
	if found.Kind != api.FoundField || !isPointer && (at == nil || keyed) {
		panic(r.fault("place", ""))
	}
	out := rooted(at)
	for _, field := range found.Path {
		s := r.opened(v, "field "+name)
		if p, is := v.(pointer); is {
			out = member{root: target{p}}
		}
		out = out.inside(s.name, field)
		v = s.items[field]
	}
	return out
}

// rooted is a place as the beginning of a path.
func rooted(at place) member {
	if m, is := at.(member); is {
		return m
	}
	return member{root: at}
}
