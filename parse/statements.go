package parse

import "guise/api"

// onlyStatements reads a text that is nothing but statements.
func (r *reader) onlyStatements() api.Node {
	return api.Node{Kind: api.NBlock, Kids: r.lines(r.seesTextEnd, r.statement)}
}

func (r *reader) block() api.Node {
	n := api.Node{Kind: api.NBlock, At: r.want("{").At}
	n.Kids = r.lines(r.seesShut, r.statement)
	r.want("}")
	return n
}

func (r *reader) statement() api.Node {
	switch r.mark() {
	case "{":
		return r.block()
	case "if":
		return r.choice()
	case "for":
		return r.loop()
	case "switch":
		return r.choices()
	case "return":
		return r.result()
	case "defer":
		return r.deferred()
	case "break":
		return r.jump(api.NBreak)
	case "continue":
		return r.jump(api.NContinue)
	case "fallthrough":
		return api.Node{Kind: api.NFall, At: r.next().At}
	case "*":
		return r.simple(r.unary)
	}
	if r.seesName() {
		return r.named()
	}
	return r.simple(r.post)
}

// named reads a statement that a name begins: what stands behind the name says which.
func (r *reader) named() api.Node {
	switch r.markBehind() {
	case ":=":
		return r.define()
	case ",":
		return r.two()
	case ":":
		return r.labelled()
	}
	return r.simple(r.post)
}

func (r *reader) define() api.Node {
	n := r.leaf(api.NDefine)
	r.want(":=")
	n.Kids = []api.Node{r.expr()}
	return n
}

func (r *reader) two() api.Node {
	first := r.name()
	r.want(",")
	n := api.Node{Kind: api.NAssignTwo, At: first.At, Kids: []api.Node{first, r.name()}}
	if !r.take("=") {
		r.want(":=")
		n.Kind = api.NDefineTwo
	}
	asked := r.post()
	if asked.Kind != api.NIndex && asked.Kind != api.NAssert {
		panic(r.wrong())
	}
	n.Kids = append(n.Kids, asked)
	return n
}

func (r *reader) labelled() api.Node {
	label := r.next()
	r.want(":")
	read := r.choices
	if r.sees("for") {
		read = r.loop
	}
	n := read()
	n.Text, n.At = label.Text, label.At
	return n
}

// simple reads a call, a step or an assignment: what its first part became says which it may be.
func (r *reader) simple(first func() api.Node) api.Node {
	n := api.Node{At: r.here().At}
	part := first()
	n.Kids = []api.Node{part}
	switch {
	case part.Kind == api.NCall:
		n.Kind = api.NDo
	case isPlace(part) && (r.sees("++") || r.sees("--")):
		n.Kind, n.Text = api.NStep, r.next().Text
	case isPlace(part) && isAssign(r.mark()):
		n.Kind, n.Text = api.NAssign, r.next().Text
		n.Kids = append(n.Kids, r.expr())
	default:
		panic(r.wrong())
	}
	return n
}

func isPlace(n api.Node) bool {
	switch n.Kind {
	case api.NName:
		return n.Text != "true" && n.Text != "false" && n.Text != "nil"
	case api.NSelect, api.NIndex:
		return true
	}
	return n.Kind == api.NUnary && n.Text == "*"
}

func isAssign(mark string) bool {
	switch mark {
	case "=", "+=", "-=", "*=", "/=", "%=", "&=", "|=", "^=", "<<=", ">>=":
		return true
	}
	return false
}

// result reads a return: without a value, if what ends a statement stands behind it.
func (r *reader) result() api.Node {
	n := api.Node{Kind: api.NReturn, At: r.next().At}
	if r.here().Kind == api.TokEnd || r.seesCaseShut() {
		n.Kids = []api.Node{r.none()}
	} else {
		n.Kids = []api.Node{r.expr()}
	}
	return n
}

func (r *reader) deferred() api.Node {
	n := api.Node{Kind: api.NDefer, At: r.next().At}
	call := r.post()
	if call.Kind != api.NCall {
		panic(r.wrong())
	}
	n.Kids = []api.Node{call}
	return n
}

func (r *reader) jump(kind int) api.Node {
	n := api.Node{Kind: kind, At: r.next().At}
	if r.seesName() {
		n.Text = r.next().Text
	}
	return n
}
