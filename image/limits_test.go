package image_test

import (
	"strings"
	"testing"

	"guise/api"
	"guise/machine"
)

// growing says ever more of itself: first lists of great numbers, then, turn by turn, of two steps each, a byte more.
const growing = "func f(n) { return [n" + ten + ten + ten + ten + ten + ten + ten + ten + ten + ten + "] }\n" +
	"var l = make(2000)\nvar p = make(20000)\nfunc main() { for i in 1442 { l[i] = f(1 << 62) }; print(1); for i in 20000 { p[i] = 0 }; l[1900] = l[0][:]; for i in 400 { l[1500 + i] = f(i) } }"

const ten = ", n, n, n, n, n, n, n, n, n, n, n, n, n, n, n, n, n, n, n, n, n, n, n, n, n, n, n, n, n, n, n, n, n, n, n, n, n, n, n, n, n, n, n, n, n, n, n, n, n, n"

// grown is a machine of it whose bytes are just so many.
func grown(t *testing.T, s string, bytes int) *machine.Machine {
	t.Helper()
	m := made(t, s, 5)
	for lines := 0; lines == 0; {
		o, _ := m.Run(10)
		lines = len(o.Out)
	}
	for {
		switch lacking := bytes - len(ownBytes(t, m)); {
		case lacking == 0:
			return m
		case lacking < 0 || m.Over():
			t.Fatalf("the machine can't have %d bytes: %d are lacking", bytes, lacking)
		default:
			m.Run(max(1, 2*(lacking-12))) // numbers of places grow, too
		}
	}
}

// As many bytes as an image may have, one more, and more than the machine's own may be; and what is told ahead of that.
func TestSaveOfTooMany(t *testing.T) {
	t.Parallel()
	other, bad := growing+"\nfunc more() { }", "func main( { }"
	most := api.MaxImage - 18 - len(growing)
	m := grown(t, growing, most)
	b := saved(t, m, growing)
	if len(b) != api.MaxImage || b != sealed(unsealed(growing, ownBytes(t, m))) {
		t.Fatalf("P19.1: the image has %d bytes", len(b))
	}
	again := loaded(t, b, growing)
	is(t, "P19.5: Save again", saved(t, again, growing), b)
	wantNotSaved(t, "another source", m, other, "190 0")

	m.Run(2)
	if n := len(ownBytes(t, m)); n != most+1 {
		t.Fatalf("the machine has %d bytes; must be %d", n, most+1)
	}
	wantNotSaved(t, "one more", m, growing, "22 0")
	wantNotSaved(t, "one more, another source", m, other, "190 0")
	wantNotSaved(t, "one more, a source that can't be compiled", m, bad, "30 11 {")
	is(t, "P19.5: it goes on", ended(again.Run(2)), ended(m.Run(0)))
	wantNotSaved(t, "one more, loaded", again, growing, "22 0")

	m.Run(api.MaxFuel)
	if _, err := m.Save(); told(err) != "22 0" {
		t.Fatalf("the machine's own bytes are %s", told(err))
	}
	wantNotSaved(t, "a machine that has too many", m, growing, "22 0")
	wantNotSaved(t, "a machine that has too many, another source", m, other, "22 0")
	wantNotSaved(t, "a machine that has too many, a source that can't be compiled", m, bad, "30 11 {")
	is(t, "P19.1: m is as it was", ended(m.Run(5)), ended(again.Run(api.MaxFuel)))
}

// The source's bytes are counted: with a longer one of the same code there is no room.
func TestSaveOfTooManyBySource(t *testing.T) {
	t.Parallel()
	m := grown(t, growing, api.MaxImage-18-len(growing)-100)
	for _, more := range []int{0, 99, 100} {
		if b := saved(t, m, growing+strings.Repeat(" ", more)); len(b) != api.MaxImage-100+more {
			t.Errorf("P19.1: %d bytes", len(b))
		}
	}
	for _, more := range []int{101, 1000} {
		wantNotSaved(t, "a longer source", m, growing+strings.Repeat(" ", more), "22 0")
	}
}
