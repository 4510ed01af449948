package machine

// node is what values lead to, and what Things counts: a variable, an object, a list's array, a map's store, or a function that was made.
type node interface {
	thing
	noted() *note
}

// note is what whoever goes over all nodes keeps at each: in which round it was met, and as which one.
type note struct{ round, place int }

func (n *note) noted() *note { return n }

type variable struct {
	note
	held value
}

// object is what pointers lead to. Its number tells it apart from others, where it is looked for as a key.
type object struct {
	note
	number int
	held   *structure
}

type array struct {
	note
	elements []value
}

// made counts a node that is made.
func made[N node](m *Machine, n N) N {
	m.things++
	return n
}

func (m *Machine) newVariable(v value) *variable { return made(m, &variable{held: v}) }

// newObject makes a pointer to an object that holds a struct.
func (m *Machine) newObject(s *structure) pointer {
	m.take(s.size)
	m.objects++
	return pointer{typed: typed{s.name}, object: made(m, &object{number: m.objects, held: s})}
}

// newList makes a list of a new array, of which it is the first so many elements.
func (m *Machine) newList(name string, elements []value, length int) list {
	return list{typed{name}, made(m, &array{elements: elements}), span{0, length, len(elements)}}
}

func (m *Machine) newMap() mapping { return mapping{typed{"map"}, made(m, newStore())} }

// nils is so many times nil.
func nils(n int) []value {
	out := make([]value, n)
	for i := range out {
		out[i] = nothing{}
	}
	return out
}
