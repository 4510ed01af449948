package machine_test

import (
	"fmt"
	"slices"
	"strings"

	"guise/api"
	"guise/code"
	"guise/types"
)

// refused is a second reading of P16.1: what New says of right code.
func refused(p code.Program, t *types.Table) string {
	for number, f := range p.Funcs {
		for i, in := range f.Code {
			if !such(t, in) {
				return fmt.Sprint("130 ", number, " ", i)
			}
		}
	}
	var lacking []string
	for _, name := range t.Names() {
		for _, pointer := range []bool{false, true} {
			for _, method := range t.Methods(name, pointer) {
				found := t.Find(name, pointer, method.Name)
				wants := func(f code.Func) bool {
					return f.Around == -1 && f.Name == found.Type+"."+method.Name && f.Params == found.Count+1
				}
				if found.Kind == api.FoundMethod && found.Type != "fault" && !slices.ContainsFunc(p.Funcs[1:], wants) {
					lacking = append(lacking, found.Type+"."+method.Name)
				}
			}
		}
	}
	if lacking == nil {
		return "ok"
	}
	return "130 0 " + slices.Min(lacking)
}

// such: the types that an instruction names are those that it may name.
func such(t *types.Table, in code.Inst) bool {
	words := strings.Split(in.Text, " ")
	kind, known := t.Under(words[0])
	switch in.Op {
	case code.OpNilOf:
		return in.A == 0 && slices.Contains([]int{api.KList, api.KMap, api.KFunc}, kind) || in.A == 1 && kind == api.KStruct
	case code.OpConvert:
		return kind == in.A
	case code.OpExpression:
		return known && (in.A == 0 || kind == api.KStruct)
	case code.OpStruct:
		fields, _ := t.Fields(words[0])
		return kind == api.KStruct && !slices.ContainsFunc(words[1:], func(f string) bool { return !slices.Contains(fields, f) })
	case code.OpAssert, code.OpHolds:
		_, protocol := t.Wants(in.Text)
		return in.A == 0 && (known || protocol) || in.A == 1 && kind == api.KStruct || in.A == 2
	}
	return true
}
