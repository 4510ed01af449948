package assert_test

import (
	"slices"

	"guise/api"
	"guise/assert"
	"guise/types"
)

// The chapter once more, in another way: protocols by the table's lists, what a type has by its whole method set, an item of a way each
// time from the datum on; and of faults all that hold are gathered, each with its number.

func modelHave(d api.Datum) string {
	of := map[int]string{api.KNil: "nil", api.KPointer: "*" + d.Type}
	if told, is := of[d.Kind]; is {
		return told
	}
	return d.Type
}

func modelProtocol(x *types.Table, want string, star bool) bool {
	return !star && (want == "any" || slices.Contains(x.Protocols(), want))
}

// modelLacks is what a datum's type has not of what a protocol wants, rising.
func modelLacks(x *types.Table, d api.Datum, protocol string) []string {
	wants, _ := x.Wants(protocol)
	has := map[api.Method]int{}
	for _, m := range x.Methods(d.Type, d.Kind == api.KPointer) {
		has[m]++
	}
	var out []string
	for _, w := range wants {
		if has[w] == 0 {
			out = append(out, w.Name)
		}
	}
	slices.Sort(out)
	return out
}

// modelMust is written as must writes it.
func modelMust(x *types.Table, d api.Datum, want string, star bool) string {
	short := modelHave(d) + " is not " + starred(star, want)
	if d.Kind == api.KNil {
		return short
	}
	if modelProtocol(x, want, star) {
		if lacks := modelLacks(x, d, want); len(lacks) > 0 {
			return short + ": no " + lacks[0]
		}
		return "yes"
	}
	type what struct {
		name string
		star bool
	}
	if (what{d.Type, d.Kind == api.KPointer}) == (what{want, star}) {
		return "yes"
	}
	return short
}

func modelChoose(x *types.Table, d api.Datum, rows [][]assert.Case) int {
	return slices.IndexFunc(rows, func(row []assert.Case) bool {
		return slices.ContainsFunc(row, func(c assert.Case) bool {
			return c.Nil && d.Kind == api.KNil || !c.Nil && modelMust(x, d, c.Want, c.Pointer) == "yes"
		})
	})
}

// itemAt is the item that a path ends at; false: the way does not come so far.
func itemAt(d api.Datum, path []int) (api.Datum, bool) {
	if len(path) == 0 {
		return d, true
	}
	ahead, last := path[:len(path)-1], path[len(path)-1]
	around, is := itemAt(d, ahead)
	if !is || around.Kind != api.KStruct || last >= len(around.Items) {
		return none, false
	}
	return around.Items[last], true
}

// modelSelect is written as picked writes it.
func modelSelect(x *types.Table, d api.Datum, name string) string {
	f := x.Find(d.Type, d.Kind == api.KPointer, name)
	what := "nil|method " + name
	if f.Kind == api.FoundField {
		what = "nil|field " + name
	}
	faults := [5]string{}
	if d.Kind == api.KNil {
		faults[1] = "nil|field " + name
	}
	switch f.Kind {
	case 0:
		faults[2] = "missing|" + name + " of " + modelHave(d)
	case api.FoundTwice:
		faults[2] = "missing|" + name + " of " + modelHave(d) + " twice"
	}
	itsOwn := f.Kind == api.FoundMethod && f.Pointer && len(f.Path) == 0
	if d.Kind == api.KPointer && d.Ref.Object == 0 && !itsOwn {
		faults[3] = what
	}
	if d.Kind == api.KStruct {
		for n := 1; n <= len(f.Path); n++ {
			item, is := itemAt(d, f.Path[:n])
			through := n < len(f.Path) || f.Kind == api.FoundMethod && !f.Pointer
			if is && item.Kind == api.KPointer && item.Ref.Object == 0 && through {
				faults[4] = what
			}
		}
		if item, is := itemAt(d, f.Path); is && f.Kind == api.FoundProtocol && item.Kind == api.KNil {
			faults[4] = what
		}
	}
	for _, told := range faults {
		if told != "" {
			return told
		}
	}
	return found(f)
}
