package trace

import "guise/api"

// Kinds of events that are asked for.
const (
	statementBegun = 1
	callBegun      = 2
	callEnded      = 3
)

// question is what is asked of an event, and what is done where the answer is yes.
type question struct {
	asked func(api.Event) bool
	then  func(api.Event)
}

// ask asks of each event one question behind the other, up to the first yes.
func ask(l []api.Event, rows []question) {
	for _, e := range l {
		for _, row := range rows {
			if row.asked(e) {
				row.then(e)
				break
			}
		}
	}
}

// likeness is something in which two events may be alike.
type likeness struct {
	in func(a, b api.Event) bool
}

func likenesses() []likeness {
	return []likeness{
		{func(a, b api.Event) bool { return a.Kind == b.Kind }},
		{func(a, b api.Event) bool { return a.At == b.At }},
		{func(a, b api.Event) bool { return a.Text == b.Text }},
	}
}

func alike(rows []likeness, a, b api.Event) bool {
	for _, row := range rows {
		if !row.in(a, b) {
			return false
		}
	}
	return true
}
