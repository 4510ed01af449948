package dispatch_test

import (
	"slices"

	"guise/api"
	"guise/types"
)

// plain is a list of questions in the order in which they were asked last, the oldest first: a second way through the chapter.
type plain struct {
	table        *types.Table
	room         int
	hits, misses int
	row          []question
}

func (m *plain) ask(q question) {
	if i := slices.Index(m.row, q); i >= 0 {
		m.hits++
		m.row = slices.Delete(m.row, i, i+1)
	} else {
		m.misses++
	}
	m.row = append(m.row, q)
	if len(m.row) > m.room {
		m.row = m.row[1:]
	}
}

func (m *plain) Find(name string, pointer bool, what string) api.Found {
	m.ask(find(name, pointer, what))
	return m.table.Find(name, pointer, what)
}

func (m *plain) Meets(name string, pointer bool, protocol string) bool {
	m.ask(meet(name, pointer, protocol))
	_, lacking := m.table.Lacks(name, pointer, protocol)
	return !lacking
}

func (m *plain) Hits() int   { return m.hits }
func (m *plain) Misses() int { return m.misses }
func (m *plain) Kept() int   { return len(m.row) }
