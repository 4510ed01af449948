package trace

import (
	"slices"

	"guise/api"
)

// page is a text's lines, and how many statements were begun on each.
type page struct {
	length int
	feeds  []int // the places of its line feeds
	counts []int
}

func pageOf(s string) *page {
	p := &page{length: len(s)}
	for i := range len(s) {
		if s[i] == '\n' {
			p.feeds = append(p.feeds, i)
		}
	}
	p.counts = make([]int, len(p.feeds)+1)
	return p
}

// begunHere: a statement was begun, at a place of the text, or at its end.
func (p *page) begunHere(e api.Event) bool {
	return e.Kind == statementBegun && e.At >= 0 && e.At <= p.length
}

func (p *page) count(e api.Event) {
	line, _ := slices.BinarySearch(p.feeds, e.At) // how many lines ended ahead of it
	p.counts[line]++
}
