package machine

import (
	"slices"
	"strconv"
	"strings"

	"guise/api"
	"guise/code"
	"guise/types"
)

// unfit tells what of right code does not fit with a table first; nil: nothing.
func unfit(p code.Program, t *types.Table) error {
	for number, f := range p.Funcs {
		for i, in := range f.Code {
			if !such(t, in) {
				return &api.Wrong{Code: api.ErrCode, At: number, Name: strconv.Itoa(i)}
			}
		}
	}
	if name, lacks := lackingMethod(p, t); lacks {
		return &api.Wrong{Code: api.ErrCode, Name: name}
	}
	return nil
}

// such: the types that an instruction names are in the table, and are what it takes them for.
func such(t *types.Table, in code.Inst) bool {
	switch in.Op {
	case code.OpNilOf:
		kind, _ := t.Under(in.Text)
		return in.A == 1 && kind == api.KStruct || in.A == 0 && (kind == api.KList || kind == api.KMap || kind == api.KFunc)
	case code.OpConvert:
		kind, _ := t.Under(in.Text)
		return kind == in.A
	case code.OpExpression:
		name, _, _ := strings.Cut(in.Text, " ")
		kind, known := t.Under(name)
		return known && (in.A == 0 || kind == api.KStruct)
	case code.OpStruct:
		words := strings.Split(in.Text, " ")
		fields, is := t.Fields(words[0])
		return is && !slices.ContainsFunc(words[1:], func(word string) bool { return !slices.Contains(fields, word) })
	case code.OpAssert, code.OpHolds:
		kind, known := t.Under(in.Text)
		_, protocol := t.Wants(in.Text)
		return in.A == 2 || in.A == 1 && kind == api.KStruct || in.A == 0 && (known || protocol)
	}
	return true
}

// lackingMethod is the first method, by its bytes, that a type declares and the code does not have. What a type has of another one, that one declares; and a pointer to a struct has all that the struct has.
func lackingMethod(p code.Program, t *types.Table) (string, bool) {
	params := map[string]int{}
	for i, f := range p.Funcs {
		if i > 0 && f.Around < 0 {
			params[f.Name] = f.Params
		}
	}
	var lacking []string
	for _, name := range t.Names() {
		if name == "fault" {
			continue
		}
		kind, _ := t.Under(name)
		for _, m := range t.Methods(name, kind == api.KStruct) {
			full := name + "." + m.Name
			if n, has := params[full]; has && n == m.Count+1 {
				continue
			}
			if found := t.Find(name, kind == api.KStruct, m.Name); found.Kind == api.FoundMethod && found.Type == name {
				lacking = append(lacking, full)
			}
		}
	}
	if len(lacking) == 0 {
		return "", false
	}
	return slices.Min(lacking), true
}
