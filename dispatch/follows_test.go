package dispatch_test

import (
	"fmt"
	"testing"

	"guise/dispatch"
)

// What follows, of one row of questions and many rooms at one time.
func TestFollows(t *testing.T) {
	r := dice(2)
	x := table(t, declared)
	for range 25 {
		var caches []*dispatch.Cache
		rooms := []int{0, 1, 2, 3, 4, 5, 7, 11, 50, 51, 300, 1024}
		for _, room := range rooms {
			caches = append(caches, over(t, x, room))
		}
		for i, q := range row(r, shuffled(r, mixed()), 500) {
			want := q.by(x)
			fewer := 0
			for j, c := range caches {
				was := c.Kept()
				is(t, "D5: "+q.String(), q.of(c), want)
				what := fmt.Sprintf("D5: the room %d, behind call %d", rooms[j], i)
				if c.Hits()+c.Misses() != i+1 {
					t.Fatalf("%s: %d hits and %d misses", what, c.Hits(), c.Misses())
				}
				if c.Kept() > rooms[j] || c.Kept() < was {
					t.Fatalf("%s: %d are kept, were %d", what, c.Kept(), was)
				}
				if c.Misses() <= rooms[j] && c.Kept() != c.Misses() {
					t.Fatalf("%s: %d are kept, of %d misses", what, c.Kept(), c.Misses())
				}
				if c.Hits() < fewer {
					t.Fatalf("%s: %d hits, with less room %d", what, c.Hits(), fewer)
				}
				fewer = c.Hits()
			}
		}
	}
}

// What was asked ahead does not show in an answer: each question behind each other one.
func TestAnswersHangOnNothingElse(t *testing.T) {
	x := table(t, declared)
	for _, room := range []int{0, 1, 2, 1024} {
		c := over(t, x, room)
		for _, one := range answers {
			for _, ahead := range answers {
				ahead.q.of(c)
				is(t, fmt.Sprintf("D5: %s behind %s", one.q, ahead.q), one.q.of(c), one.says)
			}
		}
	}
}
