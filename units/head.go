package units

import "strings"

// word is one of a line's, which is cut at blanks and tabs.
type word struct {
	text string
	at   int // in the unit's source
}

// head is what a unit's first lines import, word by word, and the place behind them.
type head struct {
	imported []word
	end      int
}

func headOf(source string) head {
	var h head
	for line := range strings.Lines(source) {
		said := strings.TrimSuffix(line, "\n")
		words := cut(said, h.end)
		switch {
		case len(words) == 0, strings.HasPrefix(words[0].text, "//"):
		case words[0].text == "import":
			h.imported = append(h.imported, orEmpty(words[1:], h.end+len(said))...)
		default:
			return h
		}
		h.end += len(line)
	}
	return h
}

// cut is the words of a line that stands at a place.
func cut(line string, at int) []word {
	var words []word
	begin := 0
	for i, r := range line + " " {
		if r != ' ' && r != '\t' {
			continue
		}
		if begin < i {
			words = append(words, word{line[begin:i], at + begin})
		}
		begin = i + 1
	}
	return words
}

// orEmpty: an import without words is taken as one of an empty word at its line's end, since that is what is told of it.
func orEmpty(words []word, lineEnd int) []word {
	if len(words) == 0 {
		return []word{{at: lineEnd}}
	}
	return words
}

// body is the source with blanks in its head's place, so that all behind it has its place still.
func (h head) body(source string) string {
	b := []byte(source)
	for i := range h.end {
		if b[i] != '\n' {
			b[i] = ' '
		}
	}
	return string(b)
}
