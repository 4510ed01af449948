package machine

// store is what maps lead to: entries in the order in which their keys came.
type store struct {
	note
	entries []*entry // those that are gone among them
	lost    int      // how many of these are gone
	marked  map[mark]*entry
}

type entry struct {
	key, held value
	gone      bool
}

func newStore() *store { return &store{marked: map[mark]*entry{}} }

func (s *store) len() int { return len(s.entries) - s.lost }

// find is a key's entry; nil: there is none.
func (s *store) find(key value) *entry { return s.marked[markOf(key)] }

// add lays an entry behind all others; its key has none. What is not equal to itself is never found again: it is not marked.
func (s *store) add(key, held value) {
	e := &entry{key: key, held: held}
	s.entries = append(s.entries, e)
	if same, _ := equal(key, key); same {
		s.marked[markOf(key)] = e
	}
}

func (s *store) drop(key value) {
	e := s.find(key)
	if e == nil {
		return
	}
	e.gone = true
	s.lost++
	delete(s.marked, markOf(key))
	if s.lost > len(s.entries)/2 {
		s.entries, s.lost = s.there(), 0
	}
}

// there is the entries that there are, as a list of its own.
func (s *store) there() []*entry {
	out := make([]*entry, 0, s.len())
	for _, e := range s.entries {
		if !e.gone {
			out = append(out, e)
		}
	}
	return out
}
