package dispatch_test

import (
	"fmt"
	"math"
	"testing"

	"guise/api"
	"guise/dispatch"
)

// Rooms that may be: a cache without entries, with counts of 0, and no error.
func TestRooms(t *testing.T) {
	x := table(t, large())
	for _, room := range []int{0, 1, 2, 3, 100, 1023, 1024} {
		c, err := dispatch.New(x, room)
		if err != nil || c == nil {
			t.Fatalf("D1: New(t, %d): %v, %v", room, c, err)
		}
		wantCounts(t, fmt.Sprint("D1: a new one of the room ", room), c, 0, 0, 0)
		for i, q := range wide(room + 3) {
			wantMiss(t, c, q, min(i+1, room))
		}
	}
}

func TestRoomsThatMayNotBe(t *testing.T) {
	x := table(t, declared)
	var met []error
	for _, room := range []int{-1, -2, -1023, -1024, -1025, 1025, 1026, 2048, math.MinInt, math.MinInt32, math.MinInt + 1, math.MaxInt, math.MaxInt32, 1 << 32, 1<<32 + 5, 1<<16 + 1, -1 << 32, 1 << 62} {
		c, err := dispatch.New(x, room)
		wantErrArg(t, fmt.Sprintf("D1: New(t, %d)", room), c, err)
		met = append(met, err)
	}
	met[0].(*api.Wrong).Name = "written over"
	for _, err := range met[1:] {
		if err == met[0] || err.(*api.Wrong).Name != "" {
			t.Fatal("P2: an error is not new")
		}
	}
}

// An error leaves no trace in caches of the same table.
func TestWrongRoomChangesNothing(t *testing.T) {
	x := table(t, declared)
	c := over(t, x, 1)
	wantMiss(t, c, find("A", false, "f"), 1)
	_, err := dispatch.New(x, -1)
	if err == nil {
		t.Fatal("D1: no error")
	}
	wantCounts(t, "P2", c, 0, 1, 1)
	wantHit(t, c, find("A", false, "f"))
}
