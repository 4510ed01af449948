package units

// scopes is the variables of functions that are seen.
type scopes struct {
	seen map[string]int // of each name how many, one within another
	come []string       // their names, in the order in which they came
}

// see lets a variable be seen up to the end of the scope at hand.
func (s *scopes) see(name string) {
	s.seen[name]++
	s.come = append(s.come, name)
}

// open begins a scope; what it answers ends it.
func (s *scopes) open() (leave func()) {
	ahead := len(s.come)
	return func() {
		for _, name := range s.come[ahead:] {
			s.seen[name]--
		}
		s.come = s.come[:ahead]
	}
}

func (s *scopes) isVariable(name string) bool { return s.seen[name] > 0 }
