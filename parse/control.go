package parse

import "guise/api"

// head reads what stands between a statement's word and its block.
func (r *reader) head(part func() api.Node) api.Node {
	r.bare = true
	n := part()
	r.bare = false
	return n
}

func (r *reader) choice() api.Node {
	n := api.Node{Kind: api.NIf, At: r.next().At}
	n.Kids = []api.Node{r.head(r.expr), r.block(), r.otherwise()}
	return n
}

func (r *reader) otherwise() api.Node {
	if !r.take("else") {
		return r.none()
	}
	if r.sees("if") {
		return r.choice()
	}
	return r.block()
}

func (r *reader) loop() api.Node {
	n := api.Node{Kind: api.NFor, At: r.next().At}
	switch {
	case r.seesItem():
		n.Kind = api.NRange
		n.Kids = append(r.items(), r.head(r.expr))
	case r.sees("{"):
		n.Kids = append(n.Kids, r.none())
	default:
		n.Kids = append(n.Kids, r.head(r.expr))
	}
	n.Kids = append(n.Kids, r.block())
	return n
}

// seesItem tells a loop over something from one with a condition, by what stands behind a name.
func (r *reader) seesItem() bool {
	if !r.seesName() {
		return r.seesBlank()
	}
	behind := r.markBehind()
	return behind == "," || behind == "in"
}

func (r *reader) items() []api.Node {
	first := r.item()
	second := r.none()
	if r.take(",") {
		second = r.item()
	}
	r.want("in")
	return []api.Node{first, second}
}

func (r *reader) item() api.Node {
	if !r.seesBlank() {
		return r.name()
	}
	n := r.none()
	r.next()
	return n
}

// choices reads a switch; one over types shows itself by a name and `:=`, or by the `.(type)` behind a post.
func (r *reader) choices() api.Node {
	n := api.Node{Kind: api.NSwitch, At: r.want("switch").At}
	if r.seesName() && r.markBehind() == ":=" {
		name := r.name()
		r.next()
		return r.typeChoices(n.At, name, r.head(r.asked))
	}
	none := r.none()
	asked := none
	if !r.sees("{") {
		asked = r.head(r.askedOrExpr)
	}
	if r.sees(".") {
		return r.typeChoices(n.At, none, asked)
	}
	n.Kids = append([]api.Node{asked}, r.cases(r.expr)...)
	return n
}

// typeChoices reads a switch over types from the `.(type)` on.
func (r *reader) typeChoices(at int, name, asked api.Node) api.Node {
	for _, mark := range []string{".", "(", "type", ")"} {
		r.want(mark)
	}
	n := api.Node{Kind: api.NTypeSwitch, At: at, Kids: []api.Node{name, asked}}
	n.Kids = append(n.Kids, r.cases(func() api.Node { return r.typeOf("map", "func", "any", "nil") })...)
	return n
}

// asked reads a post up to the `.(type)` behind it.
func (r *reader) asked() api.Node {
	n := r.prime()
	for r.goesOn() && !r.seesTypeAsked() {
		n = r.further(n)
	}
	return n
}

// askedOrExpr reads on behind such a post, if it is the beginning of an expression.
func (r *reader) askedOrExpr() api.Node {
	if isUnary(r.mark()) {
		return r.expr()
	}
	return r.operators(r.asked(), lowestLevel)
}

func (r *reader) seesTypeAsked() bool {
	return r.sees(".") && r.markBehind() == "(" && markOf(r.tokens[r.at+2]) == "type"
}

func (r *reader) cases(part func() api.Node) []api.Node {
	r.want("{")
	r.ends()
	var cases []api.Node
	for !r.take("}") {
		cases = append(cases, r.oneCase(part))
	}
	return cases
}

func (r *reader) oneCase(part func() api.Node) api.Node {
	n := api.Node{Kind: api.NCase, At: r.here().At}
	var list api.Node
	if r.take("default") {
		list = r.none()
	} else {
		r.want("case")
		list = api.Node{Kind: api.NList, At: r.here().At}
		list.Kids = r.list(":", part)
	}
	body := api.Node{Kind: api.NBlock, At: r.want(":").At}
	body.Kids = r.lines(r.seesCaseShut, r.statement)
	n.Kids = []api.Node{list, body}
	return n
}

// seesCaseShut: what stands behind the last statement of a case without an END between.
func (r *reader) seesCaseShut() bool { return r.sees("}") || r.sees("case") || r.sees("default") }
