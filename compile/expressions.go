package compile

import (
	"slices"
	"strconv"
	"strings"

	"guise/api"
	"guise/code"
	"guise/names"
	"guise/number"
)

// expr is an expression: what it is, its type tells. Its parts are not looked at yet.
type expr interface{ where() int }

// variable is one of the program, of the function itself, or of one around it.
type variable struct{ *part }

// element is e[i], pointed *p, selected e.f, asserted e.(X), logic && or ||.
type (
	element  struct{ *part }
	pointed  struct{ *part }
	selected struct{ *part }
	asserted struct{ *part }
	logic    struct{ *part }
)

// methodOf is T.m or (*T).m: it has the form of a place, and is none.
type methodOf struct {
	*part
	made code.Inst
}

// literal is a function that is written there.
type literal struct{ *part }

// called is a call of a func, built one of what is built in.
type (
	called struct{ *part }
	built  struct{ *part }
)

// composed is all else: its parts, from left to right, and an instruction that makes it of them.
type composed struct {
	*part
	parts []*part
	made  code.Inst
}

func (p *program) expr(e *part) expr {
	switch e.Kind {
	case api.NName:
		return p.name(e)
	case api.NSelect:
		return selection(e)
	case api.NIndex:
		return element{e}
	case api.NCall:
		return p.call(e)
	case api.NAssert:
		return asserted{e}
	case api.NLiteral:
		return literal{e}
	}
	switch {
	case e.Kind == api.NUnary && e.Text == "*":
		return pointed{e}
	case e.Kind == api.NBinary && (e.Text == "&&" || e.Text == "||"):
		return logic{e}
	}
	return composition(e)
}

func (p *program) name(e *part) expr {
	switch e.use.Kind {
	case names.Local, names.Global:
		return variable{e}
	case names.Routine:
		return composed{part: e, made: code.Inst{Op: code.OpLiteral, A: p.routines[e.use.Slot]}}
	}
	switch e.Text {
	case "true":
		return composed{part: e, made: code.Inst{Op: code.OpBool, A: 1}}
	case "false":
		return composed{part: e, made: code.Inst{Op: code.OpBool}}
	}
	return composed{part: e, made: code.Inst{Op: code.OpNil}}
}

func selection(e *part) expr {
	of := e.kids[0]
	switch {
	case of.isType():
		return methodOf{e, code.Inst{Op: code.OpExpression, Text: of.Text + " " + e.Text}}
	case of.isPointerType():
		return methodOf{e, code.Inst{Op: code.OpExpression, A: 1, Text: of.kids[0].Text + " " + e.Text}}
	}
	return selected{e}
}

// call is of a func, of what is built in, or a conversion.
func (p *program) call(e *part) expr {
	of := e.kids[0]
	switch {
	case of.isType():
		kind, _ := p.table.Under(of.Text)
		return composed{e, e.kids[1:], code.Inst{Op: code.OpConvert, A: kind, Text: of.Text}}
	case of.use.Kind == names.Builtin:
		return built{e}
	}
	return called{e}
}

func composition(e *part) composed {
	switch e.Kind {
	case api.NInt:
		return composed{part: e, made: code.Inst{Op: code.OpInt, Text: e.Text}}
	case api.NFloat:
		return composed{part: e, made: code.Inst{Op: code.OpFloat, Text: floatText(e.Text)}}
	case api.NText:
		return composed{part: e, made: code.Inst{Op: code.OpText, Text: e.Text}}
	case api.NNilOf:
		return composed{part: e, made: e.kids[0].typed(code.OpNilOf)}
	case api.NList:
		return composed{e, e.kids, code.Inst{Op: code.OpList, A: len(e.kids)}}
	case api.NMap:
		return composed{e, inPairs(e), code.Inst{Op: code.OpMap, A: len(e.kids)}}
	case api.NMake:
		return composed{e, inPairs(e), code.Inst{Op: code.OpStruct, A: len(e.kids), Text: fieldNames(e)}}
	case api.NNew:
		return composed{e, e.kids, code.Inst{Op: code.OpObject}}
	case api.NSlice:
		return slice(e)
	case api.NUnary:
		return composed{e, e.kids, code.Inst{Op: code.OpUnary, Text: e.Text}}
	}
	return composed{e, e.kids, code.Inst{Op: code.OpBinary, Text: e.Text}}
}

// floatText is a float's bits, by sixteenths.
func floatText(s string) string {
	d, _ := number.Float(s)
	digits := strconv.FormatUint(d.F, 16)
	return strings.Repeat("0", 16-len(digits)) + digits
}

// inPairs is what stands in an expression's pairs.
func inPairs(e *part) []*part {
	var out []*part
	for _, pair := range e.kids {
		out = append(out, pair.kids...)
	}
	return out
}

// fieldNames is a struct type's name, and those of the fields that are given.
func fieldNames(e *part) string {
	out := []string{e.Text}
	for _, pair := range e.kids {
		out = append(out, pair.Text)
	}
	return strings.Join(out, " ")
}

// What a slice leaves out, a bit each.
const (
	leavesFrom = 1
	leavesTo   = 2
)

func slice(e *part) composed {
	from, to, most := e.kids[1], e.kids[2], e.kids[3]
	made := code.Inst{Op: code.OpSlice, A: 3}
	if most.isLeftOut() {
		made.A = 2
	}
	if from.isLeftOut() {
		made.B |= leavesFrom
	}
	if to.isLeftOut() {
		made.B |= leavesTo
	}
	return composed{e, slices.DeleteFunc(slices.Clone(e.kids), (*part).isLeftOut), made}
}
