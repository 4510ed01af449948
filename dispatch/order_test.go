package dispatch_test

import (
	"fmt"
	"slices"
	"testing"
)

// few are questions of both kinds, known and not.
func few() []question {
	return []question{find("A", false, "f"), meet("A", false, "P"), find("A", true, "f"), find("nobody", false, "f"), meet("E", true, "P")}
}

// An entry that was asked again stays, and the one that was asked longest ago goes.
func TestAskedAgainStays(t *testing.T) {
	q := few()
	c := cache(t, declared, 3)
	wantMiss(t, c, q[0], 1)
	wantMiss(t, c, q[1], 2)
	wantMiss(t, c, q[2], 3)
	wantHit(t, c, q[0])
	wantMiss(t, c, q[3], 3) // q[1] goes
	wantHit(t, c, q[0])
	wantHit(t, c, q[2])
	wantHit(t, c, q[3])
	wantMiss(t, c, q[1], 3) // q[0] goes
	wantHit(t, c, q[2])
	wantHit(t, c, q[3])
	wantMiss(t, c, q[0], 3) // q[1] goes, though it came last
	wantMiss(t, c, q[1], 3) // q[2] goes
	wantHit(t, c, q[3])
	wantHit(t, c, q[0])
	wantHit(t, c, q[1])
}

// Whichever of the entries is asked again, the oldest of the others goes first.
func TestEachAskedAgain(t *testing.T) {
	x := table(t, large())
	all := wide(1030)
	for _, room := range []int{1, 2, 3, 7, 64} {
		for again := range room {
			c := over(t, x, room)
			row := slices.Clone(all[:room])
			for i, q := range row {
				wantMiss(t, c, q, i+1)
			}
			wantHit(t, c, row[again])
			row = append(slices.Delete(row, again, again+1), all[again])
			for i := range room - 1 {
				wantMiss(t, c, all[room+i], room)
			}
			wantHit(t, c, row[room-1]) // the one that was asked again is left alone
			for i := range room - 1 {
				wantHit(t, c, all[room+i])
			}
		}
	}
}

// With all the room that may be, too: the first, the last and some between are asked again.
func TestOrderInTheGreatestRoom(t *testing.T) {
	x := table(t, large())
	all := wide(1200)
	const room = 1024
	c := over(t, x, room)
	for i, q := range all[:room] {
		wantMiss(t, c, q, i+1)
	}
	again := []int{0, 1, 500, 1022, 1023}
	for _, i := range again {
		wantHit(t, c, all[i])
	}
	// 176 new ones: the oldest go, from the third one on.
	for _, q := range all[room:] {
		wantMiss(t, c, q, room)
	}
	for i := 178; i < room; i++ {
		if !slices.Contains(again, i) {
			wantHit(t, c, all[i])
		}
	}
	for _, i := range again {
		wantHit(t, c, all[i])
	}
	for _, q := range all[room:] {
		wantHit(t, c, q)
	}
	for i := 2; i < 178; i++ {
		wantMiss(t, c, all[i], room)
	}
}

// All rows of up to seven questions, over all rooms up to one more than there are: the counts behind each.
func TestAllShortRows(t *testing.T) {
	x := table(t, declared)
	q := few()[:4]
	for room := range 6 {
		for row := range 1 << 14 {
			c, m := over(t, x, room), &plain{table: x, room: room}
			for i := range 7 {
				one := q[row>>(2*i)&3]
				got, want := one.of(c), one.of(m)
				if got != want || c.Hits() != m.hits || c.Misses() != m.misses || c.Kept() != len(m.row) {
					t.Fatalf("D2: row %d of the room %d, call %d: %s: %s %s, must be %s %s", row, room, i, one, got, counts(c), want, counts(m))
				}
			}
		}
	}
}

// As many as the room, in turns, in whatever order: all but the first are hits.
func TestTurns(t *testing.T) {
	x := table(t, large())
	for _, room := range []int{1, 2, 3, 10, 100, 1023, 1024} {
		c, d := over(t, x, room), over(t, x, room)
		for turn := range 4 {
			row := slices.Clone(wide(room))
			if turn%2 == 1 {
				slices.Reverse(row)
			}
			for i, q := range row {
				is(t, "D5: "+q.String(), q.of(c), q.by(x))
				wantCounts(t, fmt.Sprintf("D5: as many as the room %d, turn %d", room, turn), c, max(0, turn*room+i+1-room), min(turn*room+i+1, room), min(turn*room+i+1, room))
			}
			for i, q := range wide(room + 1) {
				is(t, "D5: "+q.String(), q.of(d), q.by(x))
				n := turn*(room+1) + i + 1
				wantCounts(t, fmt.Sprintf("D5: one more than the room %d, turn %d", room, turn), d, 0, n, min(n, room))
			}
		}
	}
}
