package machine

import (
	"slices"
	"strconv"
	"strings"

	"guise/api"
	"guise/code"
	"guise/dispatch"
	"guise/types"
)

// program is what is played, and what is asked of its types: nothing of it changes but the cache.
type program struct {
	table     *types.Table
	cache     *dispatch.Cache
	shapes    map[string]shape
	protocols map[string]struct{}
	routines  []*routine
	methods   map[string]*routine // declared functions, by their names
	variables int                 // how many it has
	print     uint64              // tells its code from others
}

// shape is a struct type's fields, how each is embedded, and its zero.
type shape struct {
	fields []string
	embeds []int
	zero   *structure
}

// routine is a function of the code.
type routine struct {
	number int
	name   string
	params int
	slots  int
	takes  []int
	around int
	code   []inst
}

// inst is an instruction, with what need not be found out again each time.
type inst struct {
	code.Inst
	do     doing
	held   value    // of a constant
	words  []string // of the Text
	fields []int    // of a struct
}

// programOf makes a program of right code, over a table with which it fits.
func programOf(p code.Program, t *types.Table, encoded string) *program {
	out := &program{
		table:     t,
		shapes:    shapesOf(t),
		protocols: map[string]struct{}{"any": {}},
		methods:   map[string]*routine{},
		variables: len(p.Globals),
		print:     printOf(encoded),
	}
	out.cache, _ = dispatch.New(t, api.MaxCache)
	for _, name := range t.Protocols() {
		out.protocols[name] = struct{}{}
	}
	rows := rows()
	for i, f := range p.Funcs {
		r := &routine{number: i, name: strings.Clone(f.Name), params: f.Params, slots: f.Slots, takes: slices.Clone(f.Taken), around: f.Around, code: make([]inst, 0, len(f.Code))}
		for _, in := range f.Code {
			r.code = append(r.code, out.instOf(in, rows[in.Op]))
		}
		out.routines = append(out.routines, r)
		if r.isDeclared() {
			out.methods[r.name] = r
		}
	}
	return out
}

func (r *routine) isDeclared() bool { return r.number > 0 && r.around < 0 }

// shapesOf is what a table tells of its struct types.
func shapesOf(t *types.Table) map[string]shape {
	out := map[string]shape{}
	for _, name := range t.Names() {
		if zero, is := t.Zero(name); is {
			fields, _ := t.Fields(name)
			embeds, _ := t.Embeds(name)
			out[name] = shape{fields, embeds, zeroOf(zero).(*structure)}
		}
	}
	return out
}

func (p *program) instOf(from code.Inst, r row) inst {
	in := inst{Inst: from, do: r.do}
	in.Text = strings.Clone(from.Text)
	switch in.Op {
	case code.OpStruct:
		in.words = strings.Split(in.Text, " ")
		for _, word := range in.words[1:] {
			in.fields = append(in.fields, slices.Index(p.shapes[in.words[0]].fields, word))
		}
	case code.OpExpression:
		in.words = strings.Split(in.Text, " ")
	default:
		in.held = p.constant(in.Inst)
	}
	return in
}

// constant is the value that an instruction lays down, whatever else there is; nil: it is none such.
func (p *program) constant(in code.Inst) value {
	switch in.Op {
	case code.OpInt:
		n, _ := strconv.Atoi(in.Text)
		return intOf(n)
	case code.OpFloat:
		bits, _ := strconv.ParseUint(in.Text, 16, 64)
		return float{typed{"float"}, bits}
	case code.OpText:
		return textOf(in.Text)
	case code.OpBool:
		return boolOf(in.A == 1)
	case code.OpNil:
		return nothing{}
	case code.OpNilOf:
		kind, _ := p.table.Under(in.Text)
		if in.A == 1 {
			kind = api.KPointer
		}
		return noneOf(kind, in.Text)
	}
	return nil
}

// printOf is a number that tells bytes from others, by FNV-1a.
func printOf(b string) uint64 {
	x := uint64(14695981039346656037)
	for i := range len(b) {
		x = (x ^ uint64(b[i])) * 1099511628211
	}
	return x
}
