package collect_test

import (
	"fmt"
	"testing"

	"guise/api"
	"guise/collect"
)

func TestWay(t *testing.T) {
	for _, c := range []struct {
		what  string
		leads [][]int
		from  []int
		to    int
		want  []int
	}{
		{"to a root", [][]int{{2}, {1}}, numbers(1), 1, numbers(1)},
		{"to a root, that the one ahead leads to", [][]int{{2}, {1}}, numbers(1, 2), 2, numbers(2)},
		{"to a root that leads to itself", [][]int{{1}}, numbers(1), 1, numbers(1)},
		{"to one that leads to itself", [][]int{{1}, {1}}, numbers(2), 1, numbers(2, 1)},
		{"straight", [][]int{{2}, {3}, nil}, numbers(1), 3, numbers(1, 2, 3)},
		{"back", [][]int{{2}, {3}, nil}, numbers(3), 1, nil},
		{"to what nobody leads to", [][]int{{2}, nil, {1}}, numbers(1, 2), 3, nil},
		{"the shorter way", [][]int{{2, 4}, {3}, {4}, nil}, numbers(1), 4, numbers(1, 4)},
		{"the shorter way, with greater numbers", [][]int{{2, 6}, {3}, {4}, {5}, nil, {5}}, numbers(1), 5, numbers(1, 6, 5)},
		{"a root that is nearer", [][]int{{2}, {3}, {4}, nil}, numbers(1, 3), 4, numbers(3, 4)},
		{"a root that is nearer, told first", [][]int{{2}, {3}, {4}, nil}, numbers(3, 1), 4, numbers(3, 4)},
		{"a root that is nearer, and greater", [][]int{{2}, {4}, {4}, nil}, numbers(1, 3), 4, numbers(3, 4)},
		{"a root on the way", [][]int{{2}, {3}, nil}, numbers(1, 2), 3, numbers(2, 3)},
		{"the lesser root", [][]int{{3}, {3}, nil}, numbers(2, 1), 3, numbers(1, 3)},
		{"the lesser root, though a lesser thing is behind the other one", [][]int{{5}, {5}, {2}, {1}, nil}, numbers(4, 3), 5, numbers(3, 2, 5)},
		{"the lesser one in the middle", [][]int{{3, 2}, {4}, {4}, nil}, numbers(1), 4, numbers(1, 2, 4)},
		{"the lesser one first, then the greater", [][]int{{3, 2}, {6}, {4}, {7}, {7}, {7}, nil}, numbers(1), 7, numbers(1, 2, 6, 7)},
		{"the first place counts most", [][]int{nil, {5}, {4}, {1}, {1}, {3, 2}}, numbers(6), 1, numbers(6, 2, 5, 1)},
		{"through the one that comes first, not the least one", [][]int{{4}, nil, {1}, {5}, {2}, {7}, {4}, {6, 3}}, numbers(8), 2, numbers(8, 3, 1, 4, 5, 2)},
		{"two that meet, one behind the other", [][]int{{3, 4}, {3, 4}, {5}, {5}, nil}, numbers(2, 1), 5, numbers(1, 3, 5)},
		{"roots twice", [][]int{{3}, {3}, nil}, numbers(2, 2, 1, 1, 2), 3, numbers(1, 3)},
		{"roots that are none", [][]int{{3}, {3}, nil}, numbers(-5, 0, 9, 2), 3, numbers(2, 3)},
		{"a way through none", [][]int{{9}, nil}, numbers(1, 9), 2, nil},
		{"to none", [][]int{{0, 9}, nil}, numbers(0, 1, 9), 9, nil},
		{"to 0", [][]int{{2}, nil}, numbers(0, 1), 0, nil},
		{"to one below 0", [][]int{{2}, nil}, numbers(-1, 1), -1, nil},
	} {
		h := made(t, c.leads...)
		is(t, "C3: "+c.what, list0(collect.Way(h, pointers(c.from...), nil, c.to)), list0(c.want))
		is(t, "C3: from boxes: "+c.what, list0(collect.Way(h, nil, c.from, c.to)), list0(c.want))
		half := len(c.from) / 2
		is(t, "C3: from both: "+c.what, list0(collect.Way(h, pointers(c.from[:half]...), c.from[half:], c.to)), list0(c.want))
		is(t, "C3: from both, the other way round: "+c.what, list0(collect.Way(h, data(record(pointers(c.from[half:]...)...)), c.from[:half], c.to)), list0(c.want))
		is(t, "the second reading: "+c.what, list0(wayOf(h, pointers(c.from...), nil, c.to)), list0(c.want))
	}
}

// A root that stands deep in a struct is as near as any other one.
func TestWayFromItems(t *testing.T) {
	h := made(t, numbers(3), numbers(3), nil)
	deep := record(integer(1), within(50, pointer(1)))
	is(t, "C3", collect.Way(h, data(pointer(2), deep), nil, 3), "[1 3]")
	is(t, "C3", collect.Way(h, data(deep), numbers(2), 1), "[1]")
	is(t, "C3: Items of what is no struct", collect.Way(h, data(pointer(2), api.Datum{Kind: api.KList, Items: pointers(1)}), nil, 3), "[2 3]")
}

// Of a lattice, with more shortest rows than can be gone through, the least one is told.
func TestWayThroughALattice(t *testing.T) {
	const levels, width = 60, 4
	for seed := range uint64(20) {
		r := dice(seed)
		var leads [][]int
		name := r.Perm(levels * width) // thing i is the one with the number name[i] + 1
		at := func(level, i int) int { return name[level*width+i] + 1 }
		leads = make([][]int, levels*width)
		for level := range levels - 1 {
			for i := range width {
				for k := range width {
					leads[at(level, i)-1] = append(leads[at(level, i)-1], at(level+1, k))
				}
			}
		}
		var want []int
		for level := range levels {
			least := levels*width + 1
			for i := range width {
				least = min(least, at(level, i))
			}
			want = append(want, least)
		}
		to := at(levels-1, 2)
		want[levels-1] = to
		h := made(t, leads...)
		from := numbers(at(0, 3), at(0, 1), at(0, 0), at(0, 2))
		is(t, fmt.Sprint("C3: of the seed ", seed), collect.Way(h, pointers(from...), nil, to), fmt.Sprint(want))
	}
}
