package assert_test

import (
	"fmt"
	"math/rand/v2"
	"slices"
	"strings"

	"guise/api"
	"guise/assert"
	"guise/parse"
	"guise/types"
)

// grower makes programs by chance, of a few names that meet often, and data of their types.
type grower struct {
	*rand.Rand
	x     *types.Table
	types []string // struct types and others
	all   []string // and protocols, and names that are none
}

func growing(seed uint64) *grower { return &grower{Rand: dice(seed)} }

func (g *grower) chance(one, of int) bool { return g.IntN(of) < one }

var parts = []string{"f", "g", "h", "k", "x", "y", "Error"}

// program gives the grower another table.
func (g *grower) program() {
	for {
		if x, err := made(g.text()); err == nil {
			g.use(x)
			return
		}
	}
}

func made(text string) (*types.Table, error) {
	n, err := parse.Program(text)
	if err != nil {
		return nil, err
	}
	return types.Make(n)
}

func (g *grower) use(x *types.Table) {
	g.x = x
	g.types = append(x.Names(), "int", "list")
	g.all = slices.Concat(g.types, x.Protocols(), []string{"any", "", "nil", "nobody", "text"})
}

// text is a program's. By value, types embed only those behind them; so do protocols.
func (g *grower) text() string {
	names := strings.Fields("A B C D E F G H")[:1+g.IntN(8)]
	kinds := make([]int, len(names))
	for i := range kinds {
		kinds[i] = oneOf(g.Rand, api.NStruct, api.NStruct, api.NStruct, api.NStruct, api.NProtocol, api.NProtocol, api.NType)
	}
	behind := func(i, kind int) []string {
		var out []string
		for j := i; j < len(names); j++ {
			if kinds[j] == kind {
				out = append(out, names[j])
			}
		}
		return out
	}
	counts := map[string]int{}
	for _, part := range parts {
		counts[part] = g.IntN(3)
	}
	counts["Error"] = 0
	var out strings.Builder
	for i, name := range names {
		switch kinds[i] {
		case api.NType:
			fmt.Fprintf(&out, "type %s = %s\n", name, oneOf(g.Rand, kindNames[1:8]...))
			g.methods(&out, name, nil, counts, false)
		case api.NStruct:
			fields := g.fields(behind(i+1, api.NStruct), behind(0, api.NStruct), behind(0, api.NProtocol))
			fmt.Fprintf(&out, "type %s struct { %s }\n", name, strings.Join(fields, "; "))
			g.methods(&out, name, fields, counts, true)
		case api.NProtocol:
			fmt.Fprintf(&out, "protocol %s { %s }\n", name, strings.Join(g.wishes(behind(i+1, api.NProtocol), counts), "; "))
		}
	}
	return out.String()
}

func (g *grower) fields(byValue, byPointer, protocols []string) []string {
	var out []string
	for range g.IntN(5) {
		f := oneOf(g.Rand, parts...)
		switch g.IntN(5) {
		case 0, 1:
			f = "." + oneOf(g.Rand, append(byValue, "fault")...)
		case 2:
			f = ".*" + oneOf(g.Rand, append(byPointer, "fault")...)
		case 3:
			f = "." + oneOf(g.Rand, append(protocols, "error")...)
		}
		bare := strings.TrimLeft(f, ".*")
		if !slices.ContainsFunc(out, func(o string) bool { return strings.TrimLeft(o, ".*") == bare }) {
			out = append(out, f)
		}
	}
	return out
}

func (g *grower) wishes(protocols []string, counts map[string]int) []string {
	var out []string
	for range g.IntN(4) {
		if g.chance(1, 3) {
			out = append(out, oneOf(g.Rand, append(protocols, "error")...))
			continue
		}
		part := oneOf(g.Rand, parts...)
		w := fmt.Sprintf("%s(%d)", part, counts[part])
		if !slices.Contains(out, w) {
			out = append(out, w)
		}
	}
	return out
}

func (g *grower) methods(out *strings.Builder, of string, fields []string, counts map[string]int, structs bool) {
	var had []string
	for range g.IntN(4) {
		part := oneOf(g.Rand, parts...)
		if slices.Contains(fields, part) || slices.Contains(had, part) {
			continue
		}
		had = append(had, part)
		count := counts[part]
		if g.chance(1, 10) {
			count = g.IntN(5)
		}
		params := strings.Fields("p q r s")[:count]
		fmt.Fprintf(out, "func (self %s) %s(%s) {}\n", starred(structs && g.chance(1, 2), of), part, strings.Join(params, ", "))
	}
}

// datum is one that may be a value of the program, or nil.
func (g *grower) datum(deep int) api.Datum {
	name := oneOf(g.Rand, g.types...)
	kind, _ := g.x.Under(name)
	switch {
	case g.chance(1, 12):
		return none
	case kind == api.KStruct && g.chance(1, 5):
		return nilOf(name)
	case kind == api.KStruct && g.chance(1, 5):
		return pointer(name, 1+g.IntN(9), g.Perm(3)[:g.IntN(4)]...)
	case kind == api.KStruct:
		d, _ := g.x.Zero(name)
		return g.filled(d, deep)
	}
	return typed(kind, name)
}

// filled lays something into a struct's items: where a pointer stands often an object, where nothing stands often a value.
func (g *grower) filled(d api.Datum, deep int) api.Datum {
	d.Items = slices.Clone(d.Items)
	for i := range d.Items {
		item := &d.Items[i]
		switch {
		case item.Kind == api.KStruct:
			*item = g.filled(*item, deep)
		case item.Kind == api.KPointer && g.chance(2, 3):
			item.Ref.Object = 1 + g.IntN(9)
		case item.Kind == api.KNil && g.chance(1, 2) && deep > 0:
			*item = oneOf(g.Rand, integer(i), g.datum(deep-1))
		}
	}
	return d
}

// odd is any datum: of a kind and a type that there may be or not, with items that may be right or not.
func (g *grower) odd(deep int) api.Datum {
	d := typed(g.IntN(14)-2, oneOf(g.Rand, g.all...))
	if g.chance(1, 2) {
		d.Kind = oneOf(g.Rand, api.KStruct, api.KPointer)
	}
	d.Ref.Object = oneOf(g.Rand, 0, 0, 1, -1)
	if g.chance(1, 4) {
		d.N, d.S, d.F = g.IntN(5)-2, "s", g.Uint64()
		d.Ref.Path = g.Perm(4)
	}
	for n := g.IntN(5); deep > 0 && n > 0; n-- {
		d.Items = append(d.Items, g.odd(deep-1))
	}
	return d
}

// strewn lays something else at a place of the way that a name leads.
func (g *grower) strewn(d api.Datum, name string) api.Datum {
	path := g.x.Find(d.Type, d.Kind == api.KPointer, name).Path
	for n := g.IntN(len(path) + 1); n >= 0; n-- {
		if item, is := itemAt(d, path[:n]); is {
			less := item
			less.Items = item.Items[:g.IntN(len(item.Items)+1)]
			item.Kind = oneOf(g.Rand, api.KNil, api.KPointer, api.KStruct, api.KList, 77)
			return with(d, oneOf(g.Rand, none, nilOf("A"), pointer("A", 3), less, item, g.odd(2)), path[:n]...)
		}
	}
	return d
}

func (g *grower) rows() [][]assert.Case {
	rows := make([][]assert.Case, g.IntN(4))
	for i := range rows {
		for range g.IntN(3) {
			rows[i] = append(rows[i], assert.Case{Want: oneOf(g.Rand, g.all...), Pointer: g.chance(1, 3), Nil: g.chance(1, 6)})
		}
	}
	return rows
}
