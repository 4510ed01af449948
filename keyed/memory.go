package keyed

import (
	"strings"

	"guise/api"
)

// copied is a right datum in memory of its own.
func copied(d api.Datum) api.Datum {
	d.Type, d.S = strings.Clone(d.Type), strings.Clone(d.S)
	d.Ref.Path = append([]int(nil), d.Ref.Path...)
	items := append([]api.Datum(nil), d.Items...)
	for i, item := range items {
		items[i] = copied(item)
	}
	d.Items = items
	return d
}

func own(d api.Datum) *api.Datum {
	d = copied(d)
	return &d
}
