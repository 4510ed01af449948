package trace_test

import (
	"fmt"
	"strings"

	"guise/api"
)

// A second reading of R2, R3 and R4, as plain as may be.

// partsAt is where two lists part.
func partsAt(a, b []api.Event) int {
	for i := 0; ; i++ {
		switch {
		case i == len(a) && i == len(b):
			return -1
		case i == len(a) || i == len(b) || text(a[i]) != text(b[i]):
			return i
		}
	}
}

// linesOf counts, line by line, by the bytes of each.
func linesOf(s string, l []api.Event) []int {
	if len(s) > 60000 {
		return nil
	}
	var out []int
	at := 0
	lines := strings.SplitAfter(s, "\n")
	for i, line := range lines {
		end := at + len(line)
		if i == len(lines)-1 {
			end++ // the text's end is the last line's
		}
		n := 0
		for _, e := range l {
			if e.Kind == 1 && e.At >= at && e.At < end {
				n++
			}
		}
		out = append(out, n)
		at += len(line)
	}
	return out
}

// begun is a call.
type begun struct {
	api.Event
	depth       int
	open, ended bool
}

// callsOf goes through all calls at each end.
func callsOf(l []api.Event) []*begun {
	var all []*begun
	for i, e := range l {
		if i == 200000 {
			break
		}
		switch e.Kind {
		case 2:
			one := &begun{Event: e, open: true}
			all = append(all, one)
			for _, c := range all {
				if c.open {
					one.depth++
				}
			}
		case 3:
			for k := len(all) - 1; k >= 0; k-- {
				if c := all[k]; c.open && c.At == e.At && c.Text == e.Text {
					c.ended = true
					for _, within := range all[k:] {
						within.open = false
					}
					break
				}
			}
		}
	}
	return all
}

func callsText(l []api.Event) string {
	var out strings.Builder
	for _, c := range callsOf(l) {
		name := []byte(c.Text)
		if len(name) > 100 {
			name = name[:100]
		}
		for i, b := range name {
			if b < 32 {
				name[i] = '?'
			}
		}
		mark := ""
		if !c.ended {
			mark = " !"
		}
		fmt.Fprintf(&out, "%d %s%s\n", c.depth, name, mark)
	}
	return out.String()
}
