package parse

import "guise/api"

// reader goes over the tokens of a text from the front, and never back.
type reader struct {
	tokens []api.Token
	at     int
	bare   bool // in the head of a statement, within no brackets: there a `{` begins the statement's block
}

// textEnd is the kind of what stands behind the last token, so that there is always something to look at.
const textEnd = 0

func newReader(tokens []api.Token, length int) *reader {
	return &reader{tokens: append(tokens, api.Token{Kind: textEnd, At: length})}
}

func (r *reader) here() api.Token { return r.tokens[r.at] }

// wrong is what whoever can't go on panics with: the token that can't stand here.
func (r *reader) wrong() *api.Wrong {
	t := r.here()
	return &api.Wrong{Code: api.ErrToken, At: t.At, Name: t.Text}
}

// mark is the word or sign that stands here; empty: something else does.
func (r *reader) mark() string { return markOf(r.here()) }

// markBehind is the one behind a token that stands here.
func (r *reader) markBehind() string { return markOf(r.tokens[r.at+1]) }

// markOf tells words and signs from texts that say the same.
func markOf(t api.Token) string {
	if t.Kind == api.TokWord || t.Kind == api.TokSign {
		return t.Text
	}
	return ""
}

func (r *reader) sees(mark string) bool { return r.mark() == mark }

func (r *reader) seesShut() bool { return r.sees("}") }

func (r *reader) seesTextEnd() bool { return r.here().Kind == textEnd }

func (r *reader) seesBlank() bool { return r.here().Kind == api.TokName && r.here().Text == "_" }

func (r *reader) seesName() bool { return r.here().Kind == api.TokName && !r.seesBlank() }

// next takes a token that was seen.
func (r *reader) next() api.Token {
	t := r.here()
	r.at++
	return t
}

// take goes on behind a word or sign, if it stands here.
func (r *reader) take(mark string) bool {
	seen := r.sees(mark)
	if seen {
		r.at++
	}
	return seen
}

func (r *reader) want(mark string) api.Token {
	if !r.sees(mark) {
		panic(r.wrong())
	}
	return r.next()
}

func (r *reader) wantKind(kind int) api.Token {
	if r.here().Kind != kind {
		panic(r.wrong())
	}
	return r.next()
}

func (r *reader) wantName() api.Token {
	if !r.seesName() {
		panic(r.wrong())
	}
	return r.next()
}

// leaf makes a node of a token that was seen.
func (r *reader) leaf(kind int) api.Node {
	t := r.next()
	return api.Node{Kind: kind, Text: t.Text, At: t.At}
}

func (r *reader) name() api.Node {
	t := r.wantName()
	return api.Node{Kind: api.NName, Text: t.Text, At: t.At}
}

// none is what is left out here.
func (r *reader) none() api.Node { return api.Node{Kind: api.NNone, At: r.here().At} }

func (r *reader) ends() {
	for r.here().Kind == api.TokEnd {
		r.at++
	}
}

// lines reads parts with ENDs between them, up to what closes them.
func (r *reader) lines(closed func() bool, part func() api.Node) []api.Node {
	var parts []api.Node
	r.ends()
	for !closed() {
		parts = append(parts, part())
		if !closed() {
			r.wantKind(api.TokEnd)
			r.ends()
		}
	}
	return parts
}

// list reads one part or more, with commas between them and maybe one behind the last, up to the sign that shuts them.
func (r *reader) list(shut string, part func() api.Node) []api.Node {
	parts := []api.Node{part()}
	for r.take(",") && !r.sees(shut) {
		parts = append(parts, part())
	}
	return parts
}

// listWithin reads brackets with a list in them, or with nothing.
func (r *reader) listWithin(open, shut string, part func() api.Node) []api.Node {
	r.want(open)
	var parts []api.Node
	if !r.sees(shut) {
		parts = r.list(shut, part)
	}
	r.want(shut)
	return parts
}
