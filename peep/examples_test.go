package peep_test

import (
	"testing"

	"guise/code"
)

// The examples at the chapter's end.
func TestExamples(t *testing.T) {
	text := func(s string) code.Inst { return code.Inst{Op: code.OpText, Text: s} }
	for _, c := range []struct {
		what    string
		l, must []code.Inst
	}{
		{"a sum", []code.Inst{num(1), num(2), binary("+"), ret}, []code.Inst{num(3), ret}},
		{"a fault", []code.Inst{num(1), num(0), binary("/"), ret}, []code.Inst{num(1), num(0), binary("/"), ret}},
		{"a branch that is taken", []code.Inst{no, branch(4), null, ret, num(7), ret}, []code.Inst{num(7), ret}},
		{"a loop", []code.Inst{step, yes, branch(5), jump(0), null, null, ret}, []code.Inst{step, jump(0)}},
		{"texts", []code.Inst{text("a"), text("b"), binary("+"), ret}, []code.Inst{text("a"), text("b"), binary("+"), ret}},
		{"a jump", []code.Inst{jump(1), null, ret}, []code.Inst{null, ret}},
	} {
		becomes(t, c.what, c.l, c.must)
	}
}
