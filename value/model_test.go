package value_test

import (
	"bytes"
	"math/big"
	"reflect"
	"regexp"
	"slices"
	"strings"

	"guise/api"
)

// A second way through the chapter: the tables as texts, which are looked up; a datum's fields found by their names; numbers of any
// size; and structs laid flat, so that two are held against each other along two lists.

// rows are the table of right data: which names and which fields a kind has.
var rows = map[int]struct{ own, has, asked string }{
	api.KNil:     {"nothing", "", ""},
	api.KBool:    {"bool", "N", "Keyed"},
	api.KInt:     {"int", "N", "Ordered Keyed"},
	api.KFloat:   {"float", "F", "Ordered Keyed"},
	api.KText:    {"text", "S", "Ordered Sized Keyed"},
	api.KList:    {"list", "Ref.Object Ref.From Ref.Len Ref.Cap", "Sized Pointing"},
	api.KMap:     {"map", "Ref.Object", "Pointing"},
	api.KFunc:    {"func", "Ref.Object", "Pointing"},
	api.KStruct:  {"", "Items", ""},
	api.KPointer: {"", "Ref.Object Ref.Path", "Keyed Pointing"},
}

var (
	declaredName = regexp.MustCompile(`\A[a-zA-Z_][a-zA-Z_0-9]{0,39}\z`)
	ruledOut     = regexp.MustCompile(`\A(bool|int|float|text|list|map|func|any|nil|struct|pointer)\z`)
)

// set are the names of the fields in which something stands.
func set(v reflect.Value, ahead string) []string {
	var out []string
	for i := range v.NumField() {
		name, f := ahead+v.Type().Field(i).Name, v.Field(i)
		switch {
		case f.Kind() == reflect.Struct:
			out = append(out, set(f, name+".")...)
		case f.Kind() == reflect.Slice && f.Len() > 0, f.Kind() != reflect.Slice && !f.IsZero():
			out = append(out, name)
		}
	}
	return out
}

// flat lays a datum down with all that is in it, a struct ahead of its items; no more than 102 of them.
func flat(d api.Datum) []api.Datum {
	var out []api.Datum
	left := []api.Datum{d}
	for len(left) > 0 && len(out) < 102 {
		d, left = left[0], left[1:]
		out = append(out, d)
		if d.Kind == api.KStruct {
			left = append(slices.Clone(d.Items[:min(len(d.Items), 102)]), left...)
		}
	}
	return out
}

func modelRight(d api.Datum) bool {
	all := flat(d)
	for _, d := range all {
		if !modelRightOne(d) {
			return false
		}
	}
	return len(all) <= 100
}

func modelRightOne(d api.Datum) bool {
	row, is := rows[d.Kind]
	if !is {
		return false
	}
	for _, name := range set(reflect.ValueOf(d), "") {
		if name != "Kind" && name != "Type" && !slices.Contains(strings.Fields(row.has), name) {
			return false
		}
	}
	if row.own == "nothing" {
		return d.Type == ""
	}
	if d.Type != row.own && (!declaredName.MatchString(d.Type) || ruledOut.MatchString(d.Type)) {
		return false
	}
	if d.Type == "" || len(d.Items) > 30 || len(d.S) > 65536 {
		return false
	}
	if d.Kind == api.KBool && d.N != 0 && d.N != 1 {
		return false
	}
	if d.Kind == api.KFloat && d.F != oneNaN && modelNaN(d.F) {
		return false
	}
	return modelRightRef(d)
}

// modelNaN: all of the exponent's bits, and one of those behind it.
func modelNaN(bits uint64) bool {
	return bits>>52&0x7FF == 0x7FF && bits<<12 != 0
}

func modelRightRef(d api.Datum) bool {
	object, from, length, room := big.NewInt(int64(d.Ref.Object)), big.NewInt(int64(d.Ref.From)), big.NewInt(int64(d.Ref.Len)), big.NewInt(int64(d.Ref.Cap))
	if object.Sign() < 0 || object.Cmp(big.NewInt(2147483647)) > 0 {
		return false
	}
	if object.Sign() == 0 {
		return from.Sign() == 0 && length.Sign() == 0 && room.Sign() == 0 && len(d.Ref.Path) == 0
	}
	if from.Sign() < 0 || length.Sign() < 0 || room.Sign() < 0 || length.Cmp(room) > 0 || from.Add(from, room).Cmp(big.NewInt(1048576)) > 0 {
		return false
	}
	for _, n := range d.Ref.Path {
		if n != (n%30+30)%30 {
			return false
		}
	}
	return len(d.Ref.Path) <= 100
}

func modelType(d api.Datum) string {
	return map[int]string{api.KNil: "nil", api.KPointer: "*"}[d.Kind] + d.Type
}

// modelEqual goes along two that are laid flat, up to the first two that settle it.
func modelEqual(a, b api.Datum) string {
	if !modelRight(a) || !modelRight(b) {
		return "wrong"
	}
	x, y := flat(a), flat(b)
	for i := range min(len(x), len(y)) {
		if said := modelAlike(x[i], y[i]); said != "yes" {
			return said
		}
	}
	return "yes"
}

func modelAlike(a, b api.Datum) string {
	is := a.Kind == b.Kind && modelType(a) == modelType(b)
	switch {
	case is && strings.Contains("list map func", rows[a.Kind].own) && rows[a.Kind].own != "":
		return "compare " + modelType(a)
	case is && a.Kind == api.KFloat:
		is = a.F == b.F && !modelNaN(a.F) || a.F<<1 == 0 && b.F<<1 == 0
	case is && a.Kind == api.KStruct:
		is = len(a.Items) == len(b.Items)
	case is:
		is = a.N == b.N && a.S == b.S && a.Ref.Object == b.Ref.Object && slices.Compare(a.Ref.Path, b.Ref.Path) == 0
	}
	if is {
		return "yes"
	}
	return "no"
}

func modelKey(a api.Datum) string {
	said := modelEqual(a, a)
	if said == "yes" || said == "no" {
		return ""
	}
	return strings.Replace(said, "compare ", "key ", 1)
}

func modelAsked(d api.Datum) string {
	if d.Kind == api.KStruct && modelKey(d) == "" {
		return "Keyed"
	}
	return rows[d.Kind].asked
}

func modelRank(a, b api.Datum) (int, bool) {
	if !modelRight(b) || a.Kind != b.Kind || modelType(a) != modelType(b) {
		return 0, false
	}
	switch a.Kind {
	case api.KInt:
		return big.NewInt(int64(a.N)).Cmp(big.NewInt(int64(b.N))), true
	case api.KText:
		return bytes.Compare([]byte(a.S), []byte(b.S)), true
	}
	if modelNaN(a.F) || modelNaN(b.F) {
		return 0, false
	}
	return modelFloat(a.F).Cmp(modelFloat(b.F)), true
}

// modelFloat is a whole number: floats of one sign stand in the order of their bits.
func modelFloat(bits uint64) *big.Int {
	n := new(big.Int).SetUint64(bits << 1 >> 1)
	if bits>>63 == 1 {
		n.Neg(n)
	}
	return n
}

// plain is a datum in which lists without elements are nil.
func plain(d api.Datum) api.Datum {
	d.Ref.Path = append([]int(nil), d.Ref.Path...)
	items := d.Items
	d.Items = nil
	for _, item := range items {
		d.Items = append(d.Items, plain(item))
	}
	return d
}

func modelSame(a, b api.Datum) bool { return reflect.DeepEqual(plain(a), plain(b)) }
