package names_test

import (
	"slices"
	"strconv"

	"guise/api"
	"guise/tree"
)

// mender makes programs by chance of which nothing is wrong: it grows one, and changes what the model tells as wrong, again and again.
type mender struct {
	grower
	fresh int
}

func (g *mender) freshName() string {
	g.fresh++
	return "v" + strconv.Itoa(g.fresh)
}

// mend changes the node that is told as wrong, so that it is not wrong in that way.
func (g *mender) mend(m *model, code api.Errno, s *spot) {
	switch code {
	case api.ErrMain:
		g.mendMain(s)
	case api.ErrLabel:
		g.mendLabel(s)
	case api.ErrTwice:
		g.mendTwice(s)
	default:
		g.mendName(m, s)
	}
}

func (g *mender) mendMain(s *spot) {
	if s.Kind == api.NFunc {
		s.Kids[0].Kids = nil
		return
	}
	for i := range s.Kids {
		if s.Kids[i].Text == "main" {
			s.Kids[i].Text = g.freshName()
		}
	}
	main := node(api.NFunc, "main", node(api.NParams, ""), g.block(g.IntN(5)))
	s.Kids = slices.Insert(s.Kids, g.IntN(len(s.Kids)+1), main)
}

func (g *mender) mendLabel(s *spot) {
	switch s.Kind {
	case api.NFor, api.NRange, api.NSwitch, api.NTypeSwitch:
		s.Text = oneOf(g.Rand, "", "L", "M", "N", "O")
		return
	case api.NBreak, api.NContinue:
		if around := breakables(s); len(around) > 0 && g.IntN(4) > 0 {
			s.Text = around[g.IntN(len(around))].Text
			return
		}
	}
	*s.Node = node(api.NBlock, "")
}

func (g *mender) mendTwice(s *spot) {
	switch s.Kind {
	case api.NPair:
		s.in.Kids = slices.Delete(s.in.Kids, s.index, s.index+1)
	default:
		s.Text = g.freshName()
	}
}

// mendName gives a node a name that may stand there, or leaves it out.
func (g *mender) mendName(m *model, s *spot) {
	if s.Kind == api.NPair {
		fields := m.standsFor(s.in.Text, s.in).fields
		if len(fields) == 0 {
			s.in.Kids = nil
			return
		}
		s.Text = oneOf(g.Rand, fields...)
		return
	}
	if may := m.candidates(s); len(may) > 0 {
		s.Text = oneOf(g.Rand, may...)
		return
	}
	switch role(s) {
	case "expression":
		s.Text = "nil"
	case "place":
		*s.in.Node = node(api.NBlock, "")
	case "made":
		if s.in.Kind == api.NNew {
			s = s.in
		}
		*s.Node = node(api.NInt, "1")
	case "pointed":
		*s.in.Node = node(api.NName, "map")
	default:
		s.Text = "map"
	}
}

// candidates are the names of the program, and some of the language, that may stand at a node.
func (m *model) candidates(s *spot) []string {
	seen := []string{"int", "list", "fault", "print", "error"}
	for _, o := range m.spots[0].kids {
		if o.Kind != api.NMethodDecl {
			seen = append(seen, o.Text)
		}
	}
	for _, v := range m.variables {
		if v.from <= s.number && s.number < v.to {
			seen = append(seen, v.name, v.name)
		}
	}
	return slices.DeleteFunc(seen, func(name string) bool {
		was := s.Text
		s.Text = name
		defer func() { s.Text = was }()
		t := m.standsFor(name, s)
		return t.what == "" || !fits(s, t)
	})
}

// stir gives some names that stand for something, by chance, the name of something else that may stand there.
func (g *mender) stir(m *model) {
	for _, s := range m.spots {
		if role(s) == "" || g.IntN(2) == 0 {
			continue
		}
		may := m.candidates(s)
		outer := slices.DeleteFunc(slices.Clone(may), func(name string) bool { return m.standsFor(name, s).use.Up == 0 })
		if len(outer) > 0 && g.maybe() {
			may = outer
		}
		if len(may) > 0 {
			s.Text = oneOf(g.Rand, may...)
		}
	}
}

// right grows a program, and mends it until nothing is wrong; what is told of it on the way is handed to seen.
func (g *mender) right(room int, seen func(n *api.Node, m *model)) api.Node {
	n := g.program(room)
	for size := tree.Count(n); size > 300 || size < room; size = tree.Count(n) {
		n = g.program(room)
	}
	stirred := false
	for {
		m := modelOf(&n)
		if seen != nil {
			seen(&n, m)
		}
		w, s := m.wrong()
		switch {
		case w != nil:
			g.mend(m, w.Code, s)
		case stirred:
			return n
		default:
			g.stir(m)
			stirred = true
		}
	}
}

// scatter gives each node a place by chance.
func (g grower) scatter(n *api.Node) {
	n.At = g.IntN(2000) - 1000
	for i := range n.Kids {
		g.scatter(&n.Kids[i])
	}
}
