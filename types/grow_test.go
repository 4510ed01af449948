package types_test

import (
	"math/rand/v2"
	"slices"

	"guise/api"
)

// grower makes programs by chance, of a few names that meet often. They are right trees; most of them may be.
type grower struct {
	*rand.Rand
	kinds  map[string]int // what each name is declared as
	order  []string       // by value, types embed only those behind them here; so do protocols
	counts map[string]int // of methods, by their names: where all keep to it, protocols that embed one another agree
}

func growing(seed uint64) *grower { return &grower{Rand: dice(seed)} }

func (g *grower) chance(one, of int) bool { return g.IntN(of) < one }

func (g *grower) called() string { return oneOf(g.Rand, "f", "g", "h", "k", "x", "y", "Error") }

// program makes one of a few declarations, in any order.
func (g *grower) program() api.Node {
	g.plan()
	var out []api.Node
	for i, name := range g.order {
		switch g.kinds[name] {
		case api.NType:
			out = append(out, node(api.NType, name, node(api.NName, oneOf(g.Rand, seven...))))
			out = append(out, g.methods(name, nil)...)
		case api.NStruct:
			s := g.structure(name, g.order[i+1:])
			out = append(append(out, s), g.methods(name, s.Kids)...)
		case api.NProtocol:
			out = append(out, g.protocol(name, g.order[i+1:]))
		}
	}
	for g.chance(1, 3) {
		called := oneOf(g.Rand, append(g.order, "main", "f", "int")...)
		out = append(out, oneOf(g.Rand, node(api.NVar, called, node(api.NInt, "1")), node(api.NFunc, called, node(api.NParams, ""), node(api.NBlock, ""))))
	}
	g.Shuffle(len(out), func(i, j int) { out[i], out[j] = out[j], out[i] })
	return program(out...)
}

// plan chooses what there will be.
func (g *grower) plan() {
	g.kinds, g.counts = map[string]int{}, map[string]int{"Error": 0}
	g.order = []string{"A", "B", "C", "D", "E", "F", "G", "H"}[:1+g.IntN(8)]
	g.order = slices.Clone(g.order)
	g.Shuffle(len(g.order), func(i, j int) { g.order[i], g.order[j] = g.order[j], g.order[i] })
	for _, name := range g.order {
		g.kinds[name] = oneOf(g.Rand, api.NStruct, api.NStruct, api.NStruct, api.NStruct, api.NProtocol, api.NProtocol, api.NType)
	}
	for _, name := range []string{"f", "g", "h", "k", "x", "y"} {
		g.counts[name] = g.IntN(3)
	}
}

// those are the names of a list that are declared as something.
func (g *grower) those(list []string, kind int) []string {
	return slices.DeleteFunc(slices.Clone(list), func(name string) bool { return g.kinds[name] != kind })
}

// structure makes a struct type with fields of different names.
func (g *grower) structure(name string, behind []string) api.Node {
	n := node(api.NStruct, name)
	for range g.IntN(6) {
		f := node(api.NField, oneOf(g.Rand, "x", "y", "z", "f", "g"))
		switch g.IntN(6) {
		case 0, 1:
			f = node(api.NEmbed, oneOf(g.Rand, append(g.those(behind, api.NStruct), "fault")...))
		case 2, 3:
			f = node(api.NEmbedPointer, oneOf(g.Rand, append(g.those(g.order, api.NStruct), "fault")...))
		case 4:
			f = node(api.NEmbed, oneOf(g.Rand, append(g.those(g.order, api.NProtocol), "error")...))
		}
		if f.Text == "fault" && g.chance(3, 4) {
			continue
		}
		if !slices.ContainsFunc(n.Kids, func(k api.Node) bool { return k.Text == f.Text }) {
			n.Kids = append(n.Kids, f)
		}
	}
	return n
}

func (g *grower) protocol(name string, behind []string) api.Node {
	n := node(api.NProtocol, name)
	for range g.IntN(4) {
		called := g.called()
		w := wish(called, g.counts[called])
		if g.chance(1, 3) {
			w = node(api.NEmbed, oneOf(g.Rand, append(g.those(behind, api.NProtocol), "error")...))
		}
		if !slices.ContainsFunc(n.Kids, func(k api.Node) bool { return k.Kind == w.Kind && k.Text == w.Text }) || w.Kind == api.NEmbed {
			n.Kids = append(n.Kids, w)
		}
	}
	return n
}

// methods are those of a type, with names that its fields have not.
func (g *grower) methods(of string, fields []api.Node) []api.Node {
	var out []api.Node
	for range g.IntN(4) {
		called := g.called()
		count := g.counts[called]
		if g.chance(1, 8) {
			count = g.IntN(13)
		}
		if !slices.ContainsFunc(slices.Concat(fields, out), func(k api.Node) bool { return k.Text == called }) {
			out = append(out, method(of, g.kinds[of] == api.NStruct && g.chance(1, 2), called, count))
		}
	}
	return out
}

// spoil changes a program by chance in one thing, so that something may be wrong with it.
func (g *grower) spoil(n *api.Node) {
	if len(n.Kids) == 0 {
		n.Kids = append(n.Kids, node(api.NStruct, "A"))
	}
	d := &n.Kids[g.IntN(len(n.Kids))]
	called := oneOf(g.Rand, "A", "B", "C", "D", "E", "F", "G", "H", "Z", "int", "list", "fault", "error", "x", "f", "Error")
	at := d
	for len(at.Kids) > 0 && g.chance(3, 4) && at.Kids[0].Kind != api.NBlock {
		at = &at.Kids[g.IntN(len(at.Kids))]
	}
	switch g.IntN(8) {
	case 0, 1:
		if at.Text != "" {
			at.Text = called
		}
	case 2:
		switch at.Kind {
		case api.NField, api.NEmbed, api.NEmbedPointer:
			at.Kind = oneOf(g.Rand, api.NField, api.NEmbed, api.NEmbedPointer)
		case api.NMethod:
			at.N = g.IntN(13)
		case api.NStruct, api.NProtocol:
			at.Kids = append(at.Kids, node(api.NEmbed, called))
		}
	case 3:
		n.Kids = slices.Insert(n.Kids, g.IntN(len(n.Kids)+1), copied(*d))
	case 4:
		n.Kids = append(n.Kids, method(called, g.chance(1, 2), g.called(), g.IntN(3)))
	case 5, 6:
		if same := g.those(g.order, d.Kind); len(same) > 0 {
			d.Kids = append(d.Kids, node(api.NEmbed, oneOf(g.Rand, same...)))
		}
	case 7:
		*d = oneOf(g.Rand, node(api.NStruct, called), node(api.NProtocol, called), node(api.NType, called, name(oneOf(g.Rand, "int", "map", called))))
	}
}

// scatter gives the nodes any places.
func (g *grower) scatter(n *api.Node) {
	n.At = g.IntN(2000) - 1000
	for i := range n.Kids {
		g.scatter(&n.Kids[i])
	}
}
