package parse

import (
	"slices"

	"guise/api"
)

func (r *reader) prime() api.Node {
	switch r.here().Kind {
	case api.TokInt:
		return r.leaf(api.NInt)
	case api.TokFloat:
		return r.leaf(api.NFloat)
	case api.TokText:
		return r.leaf(api.NText)
	case api.TokName:
		return r.nameOrStruct()
	}
	switch r.mark() {
	case "true", "false":
		return r.leaf(api.NName)
	case "nil":
		return r.nilOrNilOf()
	}
	bare := r.bare
	r.bare = false
	n := r.bracketed()
	r.bare = bare
	return n
}

// nameOrStruct: in a head a `{` behind a name begins the statement's block.
func (r *reader) nameOrStruct() api.Node {
	if !r.bare && r.markBehind() == "{" {
		return r.structOf()
	}
	return r.name()
}

func (r *reader) structOf() api.Node {
	n := api.Node{Kind: api.NMake, At: r.here().At}
	n.Text = r.wantName().Text
	n.Kids = r.listWithin("{", "}", r.fieldPair)
	return n
}

func (r *reader) fieldPair() api.Node {
	n := api.Node{Kind: api.NPair, At: r.here().At}
	n.Text = r.wantName().Text
	r.want(":")
	n.Kids = []api.Node{r.expr()}
	return n
}

func (r *reader) nilOrNilOf() api.Node {
	n := r.leaf(api.NName)
	if !r.take("(") {
		return n
	}
	n = api.Node{Kind: api.NNilOf, At: n.At, Kids: []api.Node{r.typeOf("map", "func")}}
	r.want(")")
	return n
}

// bracketed reads what has brackets of its own, or stands ahead of them.
func (r *reader) bracketed() api.Node {
	n := api.Node{At: r.here().At}
	switch r.mark() {
	case "(":
		r.next()
		n = r.expr()
		r.want(")")
	case "[":
		n.Kind, n.Kids = api.NList, r.listWithin("[", "]", r.expr)
	case "map":
		return r.mapOrName()
	case "func":
		r.next()
		n.Kind, n.Kids = api.NLiteral, []api.Node{r.params(), r.block()}
	default:
		panic(r.wrong())
	}
	return n
}

// mapOrName: with a `(` behind it the word is the name of what is called.
func (r *reader) mapOrName() api.Node {
	n := r.leaf(api.NName)
	if r.sees("(") {
		return n
	}
	return api.Node{Kind: api.NMap, At: n.At, Kids: r.listWithin("{", "}", r.pair)}
}

func (r *reader) pair() api.Node {
	n := api.Node{Kind: api.NPair, At: r.here().At}
	n.Kids = []api.Node{r.expr()}
	r.want(":")
	n.Kids = append(n.Kids, r.expr())
	return n
}

// typeOf reads a type; which words may stand for one hangs on where it stands.
func (r *reader) typeOf(words ...string) api.Node {
	if slices.Contains(words, r.mark()) {
		return r.leaf(api.NName)
	}
	if !r.sees("*") {
		return r.name()
	}
	n := api.Node{Kind: api.NPointer, At: r.next().At}
	n.Kids = []api.Node{r.name()}
	return n
}
