package keyed

import (
	"slices"

	"guise/api"
	"guise/value"
)

// pair is a key and what lies under it. Nobody writes into either of them: what lies there anew is another datum, so that who goes over
// pairs as they were needs no copies of what they lead to.
type pair struct{ key, held *api.Datum }

func (p pair) told() (k, v api.Datum) { return copied(*p.key), copied(*p.held) }

type entry struct {
	pair
	hash           uint64
	next           *entry // in its chain
	before, behind *entry // in the order in which they came
	gone           bool   // it was taken out
}

const rowLength = 8

// row is a piece of the chains' heads: an array has its length for good, so that twice as many heads are twice as many rows.
type row [rowLength]*entry

func (m *Map) head(hash uint64) **entry {
	at := hash % uint64(len(m.heads)*rowLength)
	return &m.heads[at/rowLength][at%rowLength]
}

func (m *Map) hang(e *entry) {
	head := m.head(e.hash)
	e.next, *head = *head, e
}

// find is k's entry; nil: there is none.
func (m *Map) find(k api.Datum, hash uint64) *entry {
	// All that were laid down under one NaN stand in one chain, which would be gone through for nothing.
	if !equal(k, k) {
		return nil
	}
	for e := *m.head(hash); e != nil; e = e.next {
		if e.hash == hash && equal(*e.key, k) {
			return e
		}
	}
	return nil
}

// equal has no fault to tell: where two keys come to one, each of them came to it by itself, and is no key.
func equal(a, b api.Datum) bool {
	is, _ := value.Equal(a, b)
	return is
}

// lay puts an entry behind all others.
func (m *Map) lay(e *entry) {
	e.before, e.behind = m.ring.before, m.ring
	e.before.behind, e.behind.before = e, e
	m.hang(e)
	m.count++
	if m.count > len(m.heads)*rowLength {
		m.grow()
	}
}

func (m *Map) take(e *entry) {
	at := m.head(e.hash)
	for *at != e {
		at = &(*at).next
	}
	*at = e.next
	e.before.behind, e.behind.before = e.behind, e.before
	e.gone = true
	m.count--
}

// grow makes the heads twice as long, empty: what stood in a chain stands in this one or that one then.
func (m *Map) grow() {
	m.heads = append(m.heads, m.heads...)
	clear(m.heads)
	for e := range m.entries {
		m.hang(e)
	}
}

// entries goes over them as they stand there; meanwhile none may come or go.
func (m *Map) entries(yield func(*entry) bool) {
	for e := m.ring.behind; e != m.ring; e = e.behind {
		if !yield(e) {
			return
		}
	}
}

func (m *Map) listed() []*entry {
	return slices.AppendSeq(make([]*entry, 0, m.count), m.entries)
}

// pairs are kept apart from their entries, in which another value may lie later.
func (m *Map) pairs() []pair {
	all := make([]pair, 0, m.count)
	for e := range m.entries {
		all = append(all, e.pair)
	}
	return all
}

// now is the entry that the key of e has now; nil: there is none. One whose key is not equal to itself is found by nobody, and so never gone.
func (m *Map) now(e *entry) *entry {
	if !e.gone {
		return e
	}
	return m.find(*e.key, e.hash)
}
