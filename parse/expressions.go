package parse

import "guise/api"

// onlyExpr reads a text that is nothing but an expression.
func (r *reader) onlyExpr() api.Node {
	n := r.expr()
	r.ends()
	r.wantKind(textEnd)
	return n
}

func (r *reader) expr() api.Node { return r.operators(r.unary(), lowestLevel) }

const lowestLevel = 1

// levelOf is how close a sign binds its two operands; below lowestLevel: it is no such sign.
func levelOf(mark string) int {
	switch mark {
	case "||":
		return lowestLevel
	case "&&":
		return 2
	case "==", "!=", "<", "<=", ">", ">=":
		return 3
	case "+", "-", "|", "^":
		return 4
	case "*", "/", "%", "&", "<<", ">>":
		return 5
	}
	return 0
}

// operators reads what stands behind a first operand, as far as signs of a level, or of higher ones, bind it.
func (r *reader) operators(left api.Node, lowest int) api.Node {
	for level := levelOf(r.mark()); level >= lowest; level = levelOf(r.mark()) {
		n := r.leaf(api.NBinary)
		n.Kids = []api.Node{left, r.operators(r.unary(), level+1)}
		left = n
	}
	return left
}

func isUnary(mark string) bool { return mark == "-" || mark == "!" || mark == "^" || mark == "*" }

func (r *reader) unary() api.Node {
	if isUnary(r.mark()) {
		n := r.leaf(api.NUnary)
		n.Kids = []api.Node{r.unary()}
		return n
	}
	if r.sees("&") && !r.bare {
		n := api.Node{Kind: api.NNew, At: r.next().At}
		n.Kids = []api.Node{r.structOf()}
		return n
	}
	return r.post()
}

func (r *reader) post() api.Node {
	n := r.prime()
	for r.goesOn() {
		n = r.further(n)
	}
	return n
}

func (r *reader) goesOn() bool { return r.sees(".") || r.sees("[") || r.sees("(") }

// further reads one thing that stands right behind a first part.
func (r *reader) further(n api.Node) api.Node {
	bare := r.bare
	r.bare = false
	switch r.mark() {
	case "[":
		n = r.indexed(n)
	case "(":
		n = r.called(n)
	default:
		n = r.selected(n)
	}
	r.bare = bare
	return n
}

func (r *reader) selected(from api.Node) api.Node {
	n := api.Node{Kind: api.NSelect, At: r.next().At, Kids: []api.Node{from}}
	if r.take("(") {
		n.Kind = api.NAssert
		n.Kids = append(n.Kids, r.typeOf("map", "func", "any"))
		r.want(")")
		return n
	}
	n.Text = r.wantName().Text
	return n
}

func (r *reader) called(what api.Node) api.Node {
	n := api.Node{Kind: api.NCall, At: r.here().At}
	n.Kids = append([]api.Node{what}, r.listWithin("(", ")", r.expr)...)
	return n
}

func (r *reader) indexed(of api.Node) api.Node {
	n := api.Node{Kind: api.NIndex, At: r.next().At, Kids: []api.Node{of}}
	first := r.none()
	if !r.sees(":") {
		first = r.expr()
	}
	n.Kids = append(n.Kids, first)
	if !r.sees("]") {
		n.Kind = api.NSlice
		n.Kids = append(n.Kids, r.bounds()...)
	}
	r.want("]")
	return n
}

// bounds reads what stands behind the first bound of a slice: the last one only behind the one ahead of it.
func (r *reader) bounds() []api.Node {
	r.want(":")
	if r.sees("]") {
		return []api.Node{r.none(), r.none()}
	}
	second := r.expr()
	if r.take(":") {
		return []api.Node{second, r.expr()}
	}
	return []api.Node{second, r.none()}
}
