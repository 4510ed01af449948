package dispatch_test

import (
	"runtime"
	"strconv"
	"strings"
	"testing"
	"unsafe"

	"guise/api"
)

// writable is a text whose bytes can be written over.
func writable(s string) (string, []byte) {
	if s == "" {
		return "", nil
	}
	own := []byte(s)
	return unsafe.String(&own[0], len(own)), own
}

func wipe(own []byte, sign byte) {
	for i := range own {
		own[i] = sign
	}
}

// spoil writes over an answer: its path, what stands behind that, and its text, which is nobody else's.
func spoil(f api.Found) {
	path := f.Path[:cap(f.Path)]
	for i := range path {
		path[i] = -99
	}
	_ = append(f.Path, -98)
	if f.Type != "" {
		clear(unsafe.Slice(unsafe.StringData(f.Type), len(f.Type)))
	}
}

func wantEmptyBehind(t *testing.T, f api.Found) {
	t.Helper()
	for _, n := range f.Path[len(f.Path):cap(f.Path)] {
		if n != 0 {
			t.Fatalf("P3: behind a path stands %d", n)
		}
	}
}

// Whoever writes into an answer changes no entry, no other answer, no table: of a miss, and of a hit.
func TestAnswersAreNewMemory(t *testing.T) {
	for _, room := range []int{0, 1, 1024} {
		x := table(t, declared)
		c, beside := over(t, x, room), over(t, x, room)
		for turn := range 4 {
			for _, one := range answers {
				if one.q.meets {
					continue
				}
				first, second := c.Find(one.q.name, one.q.pointer, one.q.what), c.Find(one.q.name, one.q.pointer, one.q.what)
				third := beside.Find(one.q.name, one.q.pointer, one.q.what)
				wantEmptyBehind(t, first)
				wantEmptyBehind(t, second)
				spoil(first)
				is(t, "D4: the second answer of "+one.q.String(), said(second), one.says)
				is(t, "D4: another cache's answer of "+one.q.String(), said(third), one.says)
				spoil(second)
				is(t, "D4: written over, turn "+strconv.Itoa(turn)+": "+one.q.String(), one.q.of(c), one.says)
				is(t, "D4: the table, behind "+one.q.String(), one.q.by(x), one.says)
			}
		}
	}
}

// Two answers, of whatever questions, share no memory.
func TestAnswersShareNothing(t *testing.T) {
	c := cache(t, declared, 1024)
	var all []api.Found
	var says []string
	for range 3 {
		for _, one := range answers {
			if !one.q.meets {
				all = append(all, c.Find(one.q.name, one.q.pointer, one.q.what))
				says = append(says, one.says)
			}
		}
	}
	for i, f := range all {
		is(t, "D4: an answer, the ones ahead of it written over", said(f), says[i])
		spoil(f)
	}
}

// Texts that are handed in are not changed, and not kept: an entry stands under what was asked.
func TestQuestionsAreNotKept(t *testing.T) {
	for _, q := range append(mixed(), near()...) {
		c := cache(t, declared, 2)
		says := q.by(table(t, declared))
		name, first := writable(q.name)
		what, second := writable(q.what)
		is(t, "D2: "+q.String(), question{q.meets, name, q.pointer, what}.of(c), says)
		if string(first) != q.name || string(second) != q.what {
			t.Fatalf("P3: %s was changed: %q, %q", q, first, second)
		}
		wipe(first, '#')
		wipe(second, '%')
		wantHit(t, c, q)
		is(t, "P3: what was handed in was written over: "+q.String(), q.of(c), says)
		if name != q.name || what != q.what {
			wantMiss(t, c, question{q.meets, name, q.pointer, what}, 2)
		}
	}
}

// The same texts, asked as a hit, and written over then.
func TestHitsKeepNothing(t *testing.T) {
	c := cache(t, declared, 2)
	q := find("B", false, "y")
	wantMiss(t, c, q, 1)
	name, first := writable("B")
	what, second := writable("y")
	wantHit(t, c, find(name, false, what))
	wipe(first, 'A')
	wipe(second, 'f')
	wantHit(t, c, q)
	wantMiss(t, c, find("A", false, "f"), 2)
	wantMiss(t, c, find("C", false, "y"), 2)
	wantHit(t, c, find("A", false, "f"))
	is(t, "P3: "+q.String(), q.of(c), `1 [1 1] "" false 0`)
	wantCounts(t, "P3", c, 3, 4, 2)
}

// What has gone is kept nowhere: long texts in a little room take little.
func TestWhatHasGoneIsNotKept(t *testing.T) {
	c, empty := cache(t, declared, 3), cache(t, declared, 0)
	inUse := func() uint64 {
		runtime.GC()
		var m runtime.MemStats
		runtime.ReadMemStats(&m)
		return m.HeapAlloc
	}
	long := strings.Repeat("x", 1<<20)
	before := inUse()
	for i := range 200 {
		q := find(long+strconv.Itoa(i), i%2 == 0, "f")
		wantMiss(t, c, q, min(i+1, 3))
		wantMiss(t, empty, q, 0)
	}
	if after := inUse(); after > before+20<<20 {
		t.Errorf("D2: with room for three, %d bytes are kept", after-before)
	}
	runtime.KeepAlive(long)
	wantCounts(t, "D3", c, 0, 200, 3)
	wantCounts(t, "D3", empty, 0, 200, 0)
}
