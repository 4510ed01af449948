package image_test

import (
	"sync"
	"testing"
	"unsafe"

	"guise/image"
)

// own is a text in memory of its own, that can be written over.
func own(s string) string {
	if s == "" {
		return ""
	}
	b := append([]byte(nil), s...)
	return unsafe.String(&b[0], len(b))
}

// wipe writes over a text's bytes.
func wipe(s string) {
	if s != "" {
		b := unsafe.Slice(unsafe.StringData(s), len(s))
		for i := range b {
			b[i] = '#'
		}
	}
}

// What was handed in, and what came out, is written over: nothing of it is seen.
func TestWrittenOver(t *testing.T) {
	for _, s := range playable() {
		must := ended(made(t, s, 9).Run(700))
		m := made(t, s, 9)
		for range 50 {
			m.Run(14)
			source := own(s)
			b, err := image.Save(m, source)
			if err != nil || source != s {
				t.Fatalf("P19.4: Save: %s; the source is what it was: %v", told(err), source == s)
			}
			wipe(source)
			is(t, "P19.4: the image", b, sealed(unsealed(s, ownBytes(t, m))))

			again := saved(t, m, s)
			wipe(again)
			kept := own(b)
			checked, err := image.Check(b)
			if err != nil || checked != s || b != kept {
				t.Fatalf("P19.4: Check: %s; the bytes are what they were: %v", told(err), b == kept)
			}
			wipe(checked)
			other, answered, err := image.Load(b)
			if err != nil || answered != s || b != kept {
				t.Fatalf("P19.4: Load: %s; the bytes are what they were: %v", told(err), b == kept)
			}
			wipe(b)
			is(t, "P19.4: the source", answered, s)
			wipe(answered)
			m = other
		}
		is(t, "P19.4: the run", ended(m.Run(0)), must)
	}
}

// The name in an error is no piece of the source.
func TestErrorsAreNewMemory(t *testing.T) {
	m := made(t, least, 5)
	for s := range unfit() {
		source := own(s)
		_, err := image.Save(m, source)
		must := own(told(err))
		wipe(source)
		is(t, "P19.4: an error", told(err), must)
	}
}

// Several goroutines save and load images of their own.
func TestSeveralAtOnce(t *testing.T) {
	s := playable()[0]
	must := ended(made(t, s, 9).Run(700))
	b := saved(t, made(t, s, 9, 20), s)
	got := make([]string, 8)
	var all sync.WaitGroup
	for i := range got {
		all.Go(func() {
			m, source, err := image.Load(b)
			for range 20 {
				if err != nil || source != s {
					got[i] = told(err)
					return
				}
				m.Run(i)
				again, _ := image.Save(m, source)
				m, source, err = image.Load(again)
			}
			o, _ := m.Run(0)
			got[i] = ended(m.Run(700 - o.Steps))
		})
	}
	all.Wait()
	for _, one := range got {
		is(t, "P4", one, must)
	}
}
