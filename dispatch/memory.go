package dispatch

import (
	"slices"
	"strings"

	"guise/api"
)

// owned is a question with texts of its own.
func owned(q question) question {
	q.name, q.what = strings.Clone(q.name), strings.Clone(q.what)
	return q
}

// copied is what was found with memory of its own: an entry's is never given out.
func copied(f api.Found) api.Found {
	f.Path, f.Type = slices.Clone(f.Path), strings.Clone(f.Type)
	return f
}
