package trace

import (
	"strconv"
	"strings"

	"guise/api"
)

// mostText is how many bytes of a call's text are written.
const mostText = 100

// mark is what a call and its end have in common.
type mark struct {
	at   int
	text string
}

func markOf(e api.Event) mark { return mark{e.At, e.Text} }

// call is one that began.
type call struct {
	mark
	depth  int
	ended  bool
	around int // the number of the open call of the same mark that it hides; -1: there is none
}

// calls are all that began, by their numbers.
type calls struct {
	all       []call
	open      []int        // the numbers of those that are open, the innermost one last
	innermost map[mark]int // of the open ones of a mark: an end finds it without a look at each
}

func begins(e api.Event) bool { return e.Kind == callBegun }

func (c *calls) begin(e api.Event) {
	one := call{mark: markOf(e), depth: len(c.open) + 1, around: -1}
	if n, is := c.innermost[one.mark]; is {
		one.around = n
	}
	c.innermost[one.mark] = len(c.all)
	c.open = append(c.open, len(c.all))
	c.all = append(c.all, one)
}

// endsOne: there is an open call that ends by it.
func (c *calls) endsOne(e api.Event) bool {
	if e.Kind != callEnded {
		return false
	}
	_, is := c.innermost[markOf(e)]
	return is
}

func (c *calls) end(e api.Event) {
	one := &c.all[c.innermost[markOf(e)]]
	one.ended = true
	left := one.depth - 1
	for i := len(c.open) - 1; i >= left; i-- { // from the innermost on: each of them hides only what is further out
		c.leave(c.all[c.open[i]])
	}
	c.open = c.open[:left]
}

// leave makes the call that was hidden by another one the innermost of their mark again.
func (c *calls) leave(one call) {
	if one.around < 0 {
		delete(c.innermost, one.mark)
	} else {
		c.innermost[one.mark] = one.around
	}
}

func (c *calls) written() string {
	var out strings.Builder
	for _, one := range c.all {
		out.WriteString(strconv.Itoa(one.depth))
		out.WriteByte(' ')
		writeText(&out, one.text)
		if !one.ended {
			out.WriteString(" !")
		}
		out.WriteByte('\n')
	}
	return out.String()
}

// writeText writes as much of a text as a line takes; a byte that would break it is a question mark.
func writeText(out *strings.Builder, s string) {
	for i := range min(len(s), mostText) {
		if s[i] < ' ' {
			out.WriteByte('?')
		} else {
			out.WriteByte(s[i])
		}
	}
}
