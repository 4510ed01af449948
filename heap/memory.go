package heap

import (
	"strings"

	"guise/api"
)

// copied is a right datum in memory of its own.
func copied(d api.Datum) api.Datum {
	d.Type, d.S = strings.Clone(d.Type), strings.Clone(d.S)
	d.Ref.Path = append([]int(nil), d.Ref.Path...)
	d.Items = copies(d.Items)
	return d
}

func copies(l []api.Datum) []api.Datum {
	if len(l) == 0 {
		return nil
	}
	out := make([]api.Datum, len(l))
	layCopies(out, l)
	return out
}

// layCopies lays copies of data over the first elements of a list, which has as many at least.
func layCopies(under, l []api.Datum) {
	for i, d := range l {
		under[i] = copied(d)
	}
}
