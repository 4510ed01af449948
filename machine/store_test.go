package machine

import "testing"

// A long text that keys share is there once; behind the last of them nothing of it stays.
func TestLongTexts(t *testing.T) {
	s := newStore()
	key := func(i int) value {
		return newStructure("T", []value{textOf(string(make([]byte, 60000))), intOf(i)})
	}
	for i := range 200 {
		s.add(key(i), intOf(i))
	}
	for m := range s.marked {
		if len(m.s) > 200 {
			t.Fatalf("a mark has %d bytes", len(m.s))
		}
	}
	if len(s.long) != 1 || s.find(key(200)) != nil || s.find(key(7)).held != intOf(7) {
		t.Errorf("%d long texts", len(s.long))
	}
	for i := range 200 {
		s.drop(key(i))
		if e := s.find(key(199)); i < 199 && (e == nil || e.held != intOf(199)) {
			t.Fatalf("behind the key %d the last one is gone", i)
		}
	}
	if len(s.long) != 0 || s.len() != 0 {
		t.Errorf("%d long texts are kept for %d keys", len(s.long), s.len())
	}
}
