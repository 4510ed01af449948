package peep

import (
	"strconv"

	"guise/api"
	"guise/code"
	"guise/number"
	"guise/value"
)

// constants is how many constants, two at most, stand just ahead of an instruction, with no mark behind the first of them.
func (c *chain) constants(i int) int {
	second := c.ahead[i]
	if second == c.end || !isConstant(c.list[second].Op) {
		return 0
	}
	first := c.ahead[second]
	if first == c.end || !isConstant(c.list[first].Op) || c.named[second] > 0 {
		return 1
	}
	return 2
}

func isConstant(op code.Op) bool { return op == code.OpInt || op == code.OpBool }

// foldOne works out an operation of the constant ahead of it, if that has no fault.
func (c *chain) foldOne(i int) {
	a := c.ahead[i]
	made, err := unary(c.list[i].Text, datum(c.list[a]))
	if err == nil {
		c.list[a] = constant(made, c.list[i].At)
		c.drop(i)
	}
}

// foldTwo works out one of the two ahead of it.
func (c *chain) foldTwo(i int) {
	b := c.ahead[i]
	a := c.ahead[b]
	made, err := binary(c.list[i].Text, datum(c.list[a]), datum(c.list[b]))
	if err == nil {
		c.list[a] = constant(made, c.list[i].At)
		c.drop(b)
		c.drop(i)
	}
}

// unary is what OpUnary makes of an int or a bool.
func unary(op string, d api.Datum) (api.Datum, error) {
	one := api.Datum{Kind: api.KInt, Type: "int", N: 1}
	switch op {
	case "++":
		return number.Binary("+", d, one)
	case "--":
		return number.Binary("-", d, one)
	}
	return number.Unary(op, d)
}

// binary is what OpBinary makes of two.
func binary(op string, a, b api.Datum) (api.Datum, error) {
	switch op {
	case "==":
		same, err := value.Equal(a, b)
		return truth(same), err
	case "!=":
		same, err := value.Equal(a, b)
		return truth(!same), err
	}
	return number.Binary(op, a, b)
}

func truth(b bool) api.Datum {
	d := api.Datum{Kind: api.KBool, Type: "bool"}
	if b {
		d.N = 1
	}
	return d
}

// datum is the value of a constant that is right.
func datum(in code.Inst) api.Datum {
	if in.Op == code.OpBool {
		return truth(in.A == 1)
	}
	n, _ := strconv.Atoi(in.Text)
	return api.Datum{Kind: api.KInt, Type: "int", N: n}
}

// constant is the instruction of a bool or an int.
func constant(d api.Datum, at int) code.Inst {
	if d.Kind == api.KBool {
		return code.Inst{Op: code.OpBool, A: d.N, At: at}
	}
	return code.Inst{Op: code.OpInt, Text: strconv.Itoa(d.N), At: at}
}
