package dispatch

import "guise/api"

// The kinds of questions.
const (
	finds = iota
	meets
)

// question is what is asked of a type: what a name is there, or whether it meets a protocol.
type question struct {
	kind    int
	name    string
	pointer bool
	what    string
}

// entry is a question with its answer, in a ring by when each was asked last.
type entry struct {
	question     question
	found        api.Found
	meets        bool
	older, newer *entry
}

// ask answers by the entry, or by the table, and then makes room for the new one.
func (c *Cache) ask(q question) *entry {
	e, kept := c.entries[q]
	if kept {
		c.hits++
		e.leave()
	} else {
		c.misses++
		e = c.answered(q)
		c.entries[e.question] = e
	}
	c.join(e)
	if len(c.entries) > c.room {
		c.forget(c.ring.newer)
	}
	return e
}

// answered is a question's entry, made by the table: of texts of its own, since what is found may share them.
func (c *Cache) answered(q question) *entry {
	q = owned(q)
	e := &entry{question: q}
	if q.kind == finds {
		e.found = c.find(q.name, q.pointer, q.what)
		return e
	}
	_, lacking := c.lacks(q.name, q.pointer, q.what)
	e.meets = !lacking
	return e
}

// join lays an entry down as the one that was asked last: right behind it the ring begins anew.
func (c *Cache) join(e *entry) {
	e.older, e.newer = c.ring.older, &c.ring
	e.older.newer, e.newer.older = e, e
}

func (e *entry) leave() { e.older.newer, e.newer.older = e.newer, e.older }

func (c *Cache) forget(e *entry) {
	e.leave()
	delete(c.entries, e.question)
}
