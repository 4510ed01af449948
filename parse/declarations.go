package parse

import (
	"strconv"

	"guise/api"
)

func (r *reader) program() api.Node {
	n := api.Node{Kind: api.NProgram, At: r.here().At}
	n.Kids = r.lines(r.seesTextEnd, r.declaration)
	return n
}

func (r *reader) declaration() api.Node {
	switch r.mark() {
	case "type":
		return r.typeDeclaration()
	case "protocol":
		return r.protocol()
	case "func":
		return r.function()
	case "var":
		return r.variable()
	}
	panic(r.wrong())
}

func (r *reader) typeDeclaration() api.Node {
	n := api.Node{At: r.next().At}
	n.Text = r.wantName().Text
	if r.take("=") {
		n.Kind, n.Kids = api.NType, []api.Node{r.declaredAs()}
		return n
	}
	r.want("struct")
	n.Kind, n.Kids = api.NStruct, r.members(r.field)
	return n
}

func (r *reader) declaredAs() api.Node {
	if r.sees("map") || r.sees("func") {
		return r.leaf(api.NName)
	}
	return r.name()
}

func (r *reader) protocol() api.Node {
	n := api.Node{Kind: api.NProtocol, At: r.next().At}
	n.Text = r.wantName().Text
	n.Kids = r.members(r.wish)
	return n
}

// members reads the parts of a struct, or of a protocol.
func (r *reader) members(part func() api.Node) []api.Node {
	r.want("{")
	parts := r.lines(r.seesShut, part)
	r.want("}")
	return parts
}

func (r *reader) field() api.Node {
	n := api.Node{Kind: api.NField, At: r.here().At}
	if r.take(".") {
		n.Kind = api.NEmbed
		if r.take("*") {
			n.Kind = api.NEmbedPointer
		}
	}
	n.Text = r.wantName().Text
	return n
}

func (r *reader) wish() api.Node {
	n := api.Node{Kind: api.NEmbed, At: r.here().At}
	n.Text = r.wantName().Text
	if r.take("(") {
		n.Kind = api.NMethod
		// What lex takes for an int has room in one; how great it may be, the tree is asked.
		n.N, _ = strconv.Atoi(r.wantKind(api.TokInt).Text)
		r.want(")")
	}
	return n
}

// function reads the declaration of a function, or of a method.
func (r *reader) function() api.Node {
	n := api.Node{Kind: api.NFunc, At: r.next().At}
	if r.take("(") {
		n.Kind = api.NMethodDecl
		n.Kids = append(n.Kids, r.receiver())
		r.want(")")
	}
	n.Text = r.wantName().Text
	n.Kids = append(n.Kids, r.params(), r.block())
	return n
}

func (r *reader) receiver() api.Node {
	n := api.Node{Kind: api.NReceiver, At: r.here().At}
	n.Text = r.wantName().Text
	n.Kids = []api.Node{r.typeOf()}
	return n
}

func (r *reader) params() api.Node {
	n := api.Node{Kind: api.NParams, At: r.here().At}
	n.Kids = r.listWithin("(", ")", r.name)
	return n
}

func (r *reader) variable() api.Node {
	n := api.Node{Kind: api.NVar, At: r.next().At}
	n.Text = r.wantName().Text
	r.want("=")
	n.Kids = []api.Node{r.expr()}
	return n
}
