package machine

// store is what maps lead to: entries in the order in which their keys came.
type store struct {
	note
	entries []*entry // those that are gone among them
	lost    int      // how many of these are gone
	marked  map[mark]*entry
	long    map[string]uint64 // numbers of long texts within keys
}

type entry struct {
	key, held value
	gone      bool
}

func newStore() *store { return &store{marked: map[mark]*entry{}} }

func (s *store) len() int { return len(s.entries) - s.lost }

// find is a key's entry; nil: there is none.
func (s *store) find(key value) *entry { return s.marked[s.markOf(key, false)] }

// add lays an entry behind all others; its key has none. What is not equal to itself is never found again: it is not marked.
func (s *store) add(key, held value) {
	e := &entry{key: key, held: held}
	s.entries = append(s.entries, e)
	s.remember(e)
}

func (s *store) remember(e *entry) {
	if same, _ := equal(e.key, e.key); same {
		s.marked[s.markOf(e.key, true)] = e
	}
}

func (s *store) drop(key value) {
	e := s.find(key)
	if e == nil {
		return
	}
	e.gone = true
	s.lost++
	delete(s.marked, s.markOf(key, false))
	if s.lost > len(s.entries)/2 {
		s.entries, s.lost = s.there(), 0
		s.forgetTexts()
	}
}

// forgetTexts: those of keys that went have a number no more.
func (s *store) forgetTexts() {
	if s.long == nil {
		return
	}
	s.marked, s.long = map[mark]*entry{}, nil
	for _, e := range s.entries {
		s.remember(e)
	}
}

// there is the entries that there are, as a list of its own.
func (s *store) there() []*entry {
	out := make([]*entry, 0, s.len())
	for _, e := range s.entries {
		if !e.gone {
			out = append(out, e)
		}
	}
	return out
}
