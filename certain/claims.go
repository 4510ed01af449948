package certain

import "strings"

// question is an assertion, or a type of a case: whether what comes to it holds that.
type question struct {
	at    int
	want  string
	of    cell
	ahead set // types that hold one ahead of it in its switch
}

// ask lays a question down where its node stands, ahead of those of what is within it; its set may be known later.
func (p *program) ask(at int, want string, ahead set) int {
	p.questions = append(p.questions, question{at: at, want: want, ahead: ahead})
	return len(p.questions) - 1
}

func (p *program) askCase(c *part, of cell, ahead set) {
	for _, n := range c.Kids[0].Kids {
		want := typeName(n)
		q := p.ask(c.At, want, ahead)
		p.questions[q].of = of
		ahead = ahead.with(p.types.holding(want))
	}
}

// claims: of what nobody can come to it is told that it always holds.
func (p *program) claims() []Claim {
	var out []Claim
	for _, q := range p.questions {
		left := p.sets[q.of].without(q.ahead)
		holding := p.types.holding(q.want)
		always, never := left.without(holding).empty(), left.among(holding).empty()
		if always || never {
			out = append(out, Claim{At: q.at, Want: strings.Clone(q.want), Always: always})
		}
	}
	return out
}
