package walk

import "testing"

// What went from a store does not stay in its way: going over it takes no longer than what there is asks for.
func TestGoneEntries(t *testing.T) {
	s := newStore()
	for i := range 1000 {
		s.add(intOf(i), intOf(i))
		s.drop(intOf(i - 1))
		if s.len() != 1 || len(s.entries) > 3 || len(s.there()) != 1 {
			t.Fatalf("%d entries, %d of them kept, at %d", s.len(), len(s.entries), i)
		}
	}
	for i := range 100 {
		s.add(intOf(1000+i), nil)
	}
	for i := range 60 {
		s.drop(intOf(1000 + i))
	}
	if s.len() != 41 || len(s.there()) != 41 || s.find(intOf(1059)) != nil || s.find(intOf(1060)) == nil {
		t.Errorf("%d entries, %d of them kept", s.len(), len(s.entries))
	}
}
