package image_test

import (
	"strings"
	"testing"

	"guise/image"
)

const least = "func main() { }"

// The chapter's examples, line by line.
func TestExamples(t *testing.T) {
	m := made(t, least, 5)
	b := saved(t, m, least)
	if !strings.HasPrefix(b, "GUISE1\x00\x00\x00\x0f"+least) {
		t.Errorf("P19.1: %q", b)
	}
	wantNotSaved(t, "another source", m, "func main() { print(1) }", "190 0")
	wantNotSaved(t, "a source that can't be compiled", m, "func main( { }", "30 11 {")

	wantNoImage(t, "nothing", "", 0)
	wantNoImage(t, "another sign", "GUISE2", 5)
	wantNoImage(t, "the sign alone", "GUISE1", 6)
	wantNoImage(t, "a length alone", "GUISE1\x00\x00\x00\x09", 6)
	wantNoImage(t, "a byte more", b+"x", len(b))
	last := b[len(b)-1] ^ 1
	wantNoImage(t, "another last byte", b[:len(b)-1]+string([]byte{last}), len(b)-4)
}

// A machine that is spent behind 5 steps goes on with the 6th.
func TestExampleOfASpentMachine(t *testing.T) {
	s := "func main() { for i in 9 { print(i) } }"
	m := made(t, s, 5)
	is(t, "the beginning", ended(m.Run(5)), "spent 5 | 0")
	again, source, err := image.Load(saved(t, m, s))
	if err != nil || source != s {
		t.Fatalf("P19.3: %s, %q", told(err), source)
	}
	is(t, "P19.5: the 6th step", ended(again.Run(1)), "spent 6 | 0 | 1")
	whole := ended(made(t, s, 5).Run(100))
	is(t, "P19.5: and on", ended(again.Run(100)), whole)
	is(t, "P19.7: the one that was saved", ended(m.Run(100)), whole)
}
