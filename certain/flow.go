package certain

// cell is one of the sets: an expression's, a variable's, a field's, what functions answer, what lists hold ..
type cell int

// node is a part of the program as the sets see it: which of them it looks at, and what comes of these.
type node interface {
	looks() []cell
	gives(sets map[cell]set) set
}

// those are the types of a set that are among some.
type those struct {
	of    cell
	among set
}

func (n those) looks() []cell               { return []cell{n.of} }
func (n those) gives(sets map[cell]set) set { return sets[n.of].among(n.among) }

// common are the types that two sets both have, among some.
type common struct {
	a, b  cell
	among set
}

func (n common) looks() []cell               { return []cell{n.a, n.b} }
func (n common) gives(sets map[cell]set) set { return sets[n.a].among(sets[n.b]).among(n.among) }

// where is all of a set, if another one has any of some types.
type where struct {
	of   cell
	any  set
	then cell
}

func (n where) looks() []cell { return []cell{n.of, n.then} }

func (n where) gives(sets map[cell]set) set {
	if sets[n.of].among(n.any).empty() {
		return set{}
	}
	return sets[n.then]
}

// behind is what the pointers of a set lead to.
type behind struct {
	of    cell
	types *catalog
}

func (n behind) looks() []cell               { return []cell{n.of} }
func (n behind) gives(sets map[cell]set) set { return n.types.pointed(sets[n.of]) }

// selected is what a name is of the types of a set: of some a field, of others a method.
type selected struct {
	of, field cell
	name      string
	types     *catalog
}

func (n selected) looks() []cell { return []cell{n.of, n.field} }

func (n selected) gives(sets map[cell]set) set {
	of := sets[n.of]
	m := n.types.member(n.name, of)
	var out set
	if !of.among(m.fields).empty() {
		out = sets[n.field]
	}
	if !of.among(m.methods).empty() {
		out = out.with(n.types.just(funcName))
	}
	return out
}

// graph is the sets, and what they take from one another.
type graph struct {
	sets  map[cell]set
	flows map[cell][]flow // by what their nodes look at
	grown map[cell]struct{}
}

// flow is what one set takes.
type flow struct {
	from node
	to   cell
}

func newGraph() graph {
	return graph{sets: map[cell]set{}, flows: map[cell][]flow{}, grown: map[cell]struct{}{}}
}

// fresh is a new set, with some types from the beginning.
func (g *graph) fresh(from set) cell {
	c := cell(len(g.sets))
	g.sets[c] = from
	return c
}

// grow lays types into a set.
func (g *graph) grow(to cell, types set) {
	if more := g.sets[to].with(types); more != g.sets[to] {
		g.sets[to] = more
		g.grown[to] = struct{}{}
	}
}

// take lets a set have, from now on, whatever comes of a node.
func (g *graph) take(to cell, from node) {
	for _, c := range from.looks() {
		g.flows[c] = append(g.flows[c], flow{from, to})
	}
	g.grow(to, from.gives(g.sets))
}

// settle goes on till no set grows any more. As sets only grow, these are the least ones, whatever the map's order.
func (g *graph) settle() {
	for len(g.grown) > 0 {
		grown := g.grown
		g.grown = map[cell]struct{}{}
		for c := range grown {
			for _, f := range g.flows[c] {
				g.grow(f.to, f.from.gives(g.sets))
			}
		}
	}
}
