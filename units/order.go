package units

import (
	"iter"
	"maps"

	"guise/api"
)

// order is the units' numbers as they stand in turn, if none leads to itself.
func order(l []*unit) ([]int, error) {
	var numbers []int
	for i := range l {
		numbers = append(numbers, i)
	}
	imports := func(i int) iter.Seq[int] { return maps.Values(l[i].imports) }
	if i, found := firstOf(numbers, func(i int) bool { return leads(i, imports) }); found {
		return nil, bare(api.ErrImport, l[i].name)
	}
	return inTurn(numbers, imports), nil
}

// inTurn tells things so that each comes behind those that it waits for: the next one is always the first that waits for none any more.
func inTurn[T comparable](l []T, waits func(T) iter.Seq[T]) []T {
	var out []T
	come := map[T]struct{}{}
	next := func(x T) bool {
		_, has := come[x]
		return !has && within(waits(x), come)
	}
	for {
		x, found := firstOf(l, next)
		if !found {
			return out
		}
		come[x] = struct{}{}
		out = append(out, x)
	}
}

// firstOf is the first thing of a list of which something is so, if there is one.
func firstOf[T any](l []T, so func(T) bool) (T, bool) {
	for _, x := range l {
		if so(x) {
			return x, true
		}
	}
	var none T
	return none, false
}

func within[T comparable](some iter.Seq[T], all map[T]struct{}) bool {
	for x := range some {
		if _, has := all[x]; !has {
			return false
		}
	}
	return true
}

// leads tells whether a thing waits for itself, in a row of whatever length.
func leads[T comparable](from T, waits func(T) iter.Seq[T]) bool {
	come := map[T]struct{}{}
	rest := []T{from}
	for len(rest) > 0 {
		x := rest[0]
		rest = rest[1:]
		for y := range waits(x) {
			if _, has := come[y]; !has {
				come[y] = struct{}{}
				rest = append(rest, y)
			}
		}
	}
	_, back := come[from]
	return back
}
