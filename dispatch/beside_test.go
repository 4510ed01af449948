package dispatch_test

import (
	"sync"
	"testing"
)

// Two caches of one table: what one was asked, the other one does not know.
func TestCachesOfOneTable(t *testing.T) {
	x := table(t, declared)
	c, d := over(t, x, 2), over(t, x, 2)
	q := few()
	wantMiss(t, c, q[0], 1)
	wantCounts(t, "D4: the other one", d, 0, 0, 0)
	wantMiss(t, d, q[0], 1)
	wantCounts(t, "D4: the first one", c, 0, 1, 1)
	wantHit(t, c, q[0])
	wantMiss(t, d, q[1], 2)
	wantMiss(t, d, q[2], 2) // q[0] goes there
	wantHit(t, c, q[0])
	wantMiss(t, d, q[0], 2)
	wantMiss(t, c, q[1], 2)
	wantCounts(t, "D4: the first one", c, 2, 2, 2)
	wantCounts(t, "D4: the other one", d, 0, 4, 2)
}

// Caches of one table with unlike rooms, and of two tables, asked in turns: each is as if it were alone.
func TestCachesInTurns(t *testing.T) {
	r := dice(3)
	x, y := table(t, declared), table(t, other)
	var all []asked
	var alone []*plain
	for _, room := range []int{0, 1, 3, 30, 1024} {
		all = append(all, over(t, x, room), over(t, y, room))
		alone = append(alone, &plain{table: x, room: room}, &plain{table: y, room: room})
	}
	from := shuffled(r, mixed())
	for _, q := range row(r, from, 4000) {
		i := r.IntN(len(all))
		is(t, "D4: "+q.String(), q.of(all[i]), q.of(alone[i]))
		for j := range all {
			is(t, "D4: hits, misses, kept", counts(all[j]), counts(alone[j]))
		}
	}
}

// Of two tables the same question has two answers.
func TestCachesOfTwoTables(t *testing.T) {
	c, d := cache(t, declared, 9), cache(t, other, 9)
	for range 3 {
		is(t, "D4: the first table", find("A", true, "g").of(c), `2 [] "A" true 1`)
		is(t, "D4: the other table", find("A", true, "g").of(d), `2 [] "A" true 0`)
		is(t, "D4: the first table", find("B", false, "f").of(c), `2 [0] "A" false 0`)
		is(t, "D4: the other table", find("B", false, "f").of(d), `2 [] "B" false 0`)
		is(t, "D4: the first table", meet("B", false, "P").of(c), "false")
		is(t, "D4: the other table", meet("B", true, "P").of(d), "true")
		is(t, "D4: the first table", find("K", false, "f").of(c), `0 [] "" false 0`)
		is(t, "D4: the other table", find("K", false, "f").of(d), `2 [] "K" false 0`)
	}
	wantCounts(t, "D4: the first table", c, 8, 4, 4)
	wantCounts(t, "D4: the other table", d, 8, 4, 4)
}

// Caches of one table may be several goroutines' at one time, one each.
func TestCachesOfSeveralGoroutines(t *testing.T) {
	x := table(t, declared)
	var group sync.WaitGroup
	says := make([]string, 8)
	for i := range says {
		group.Go(func() {
			c := over(t, x, 20)
			for _, q := range row(dice(4), mixed(), 2000) {
				says[i] = q.of(c)
			}
			says[i] += " " + counts(c)
		})
	}
	group.Wait()
	for _, s := range says {
		is(t, "D4: caches beside one another", s, says[0])
	}
}
