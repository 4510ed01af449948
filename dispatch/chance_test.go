package dispatch_test

import (
	"fmt"
	"math/rand/v2"
	"testing"

	"guise/types"
)

// row is questions by chance: from some that are asked often and some that are asked rarely.
func row(r *rand.Rand, from []question, n int) []question {
	often := from[:1+r.IntN(len(from))]
	near := often[:1+r.IntN(min(len(often), 20))]
	out := make([]question, 0, n)
	for range n {
		switch r.IntN(4) {
		case 0:
			out = append(out, from[r.IntN(len(from))])
		case 1:
			out = append(out, often[r.IntN(len(often))])
		default:
			out = append(out, near[r.IntN(len(near))])
		}
	}
	return out
}

// alike: a cache is asked a row of questions, and beside it the table and a plain list.
func alike(t testing.TB, x *types.Table, room int, row []question) {
	t.Helper()
	c, m := over(t, x, room), &plain{table: x, room: room}
	for i, q := range row {
		is(t, fmt.Sprintf("D5: room %d, call %d: %s", room, i, q), q.of(c), q.by(x))
		q.of(m)
		if c.Hits() != m.hits || c.Misses() != m.misses || c.Kept() != len(m.row) {
			t.Fatalf("D5: room %d, behind call %d: %s: hits, misses, kept %s, must be %s", room, i, q, counts(c), counts(m))
		}
	}
}

func shuffled(r *rand.Rand, list []question) []question {
	r.Shuffle(len(list), func(i, j int) { list[i], list[j] = list[j], list[i] })
	return list
}

// Long rows of questions by chance, against the table and a plain list.
func TestByChance(t *testing.T) {
	r := dice(1)
	sources := []struct {
		x    *types.Table
		from []question
	}{{table(t, declared), mixed()}, {table(t, other), mixed()}, {table(t, large()), wide(1200)}, {table(t, declared), near()}}
	rooms := []int{0, 1, 2, 3, 5, 8, 20, 100, 199, 200, 700, 1023, 1024}
	for i := range 120 {
		s := sources[i%len(sources)]
		alike(t, s.x, rooms[r.IntN(len(rooms))], row(r, shuffled(r, s.from), 1200))
	}
}

// FuzzCache: the first two bytes are the room, each further one is a question, or the table's other half of them.
func FuzzCache(f *testing.F) {
	x := table(f, declared)
	all := mixed()
	f.Add([]byte{0, 0, 1, 1, 1})
	f.Add([]byte{0, 2, 1, 2, 1, 3, 2, 1})
	f.Add([]byte{4, 0, 1, 255, 1, 255, 9, 1})
	f.Fuzz(func(t *testing.T, data []byte) {
		if len(data) < 2 {
			return
		}
		var row []question
		for i, b := range data[2:] {
			row = append(row, all[(int(b)*7+i%2*300)%len(all)])
		}
		alike(t, x, (int(data[0])<<8|int(data[1]))%1025, row)
	})
}
