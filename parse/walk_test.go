package parse_test

import (
	"math/rand/v2"
	"strings"
	"testing"

	"guise/lex"
)

// vocabulary is all words and signs, and one of each other kind of token.
var vocabulary = strings.Fields(`a _ 1 1.5 "t" ; any break case continue default defer else fallthrough false for func if in map nil
	protocol return struct switch true type var <<= >>= := == != <= >= && || << >> += -= *= /= %= &= |= ^= ++ -- + - * / % & | ^
	! < > = ( ) [ ] { } , . :`)

// kinds of tokens of which the grammar has several that stand in the same places: one of each is enough for all texts of a
// few tokens.
var shortVocabulary = strings.Fields(`a _ 1 "t" ; any break case default defer else fallthrough for func if in map nil protocol
	return struct switch true type var := == += ++ - * & ^ = ( ) [ ] { } , . :`)

func TestVocabularyIsWhole(t *testing.T) {
	for _, word := range append(lex.Words(), strings.Fields("<<= >>= := ++ -- ( ) [ ] { } , . :")...) {
		if !strings.Contains(" "+strings.Join(vocabulary, " ")+" ", " "+word+" ") {
			t.Errorf("%s is not there", word)
		}
	}
	if len(vocabulary) != 6+22+21+21 {
		t.Errorf("%d tokens", len(vocabulary))
	}
}

// walk grows a text token by token, and holds each token that might come next against the grammar.
type walk struct {
	t     *testing.T
	as    form
	chart *chart
	text  string
	count int // tokens so far
}

func newWalk(t *testing.T, as form) *walk {
	return &walk{t: t, as: as, chart: newChart(language, starts[as.name])}
}

// tryNext tells whether a token may come next, and whether parse says so too.
func (w *walk) tryNext(word string) bool {
	text := w.text + word
	tokens, err := lex.Scan(text)
	if err != nil {
		w.t.Fatalf("Scan(%q): %v", text, err)
	}
	k := tokens[w.count]
	want := wrongAt(k.At, k.Text)
	read := 0
	for _, k := range tokens[w.count:] { // the token, and maybe the text's END
		if !w.chart.read(k) {
			break
		}
		read++
	}
	if read > 0 {
		want = wrongAt(len(text), "")
	}
	if read == len(tokens)-w.count && w.chart.whole() {
		want = ""
	}
	for range read {
		w.chart.back()
	}
	got := w.as.told(w.t, text)
	if !strings.HasPrefix(got, "!token") {
		got = ""
	}
	if got != want {
		w.t.Errorf("%s(%q): %q, by the grammar %q", w.as.name, text, got, want)
	}
	return read > 0
}

func (w *walk) goOn(word string) {
	tokens, _ := lex.Scan(w.text + word)
	w.chart.read(tokens[w.count])
	w.count++
	w.text += word + " "
}

func (w *walk) goBack(word string) {
	w.chart.back()
	w.count--
	w.text = strings.TrimSuffix(w.text, word+" ")
}

func (w *walk) next(words []string) []string {
	var can []string
	for _, word := range words {
		if w.tryNext(word) {
			can = append(can, word)
		}
	}
	return can
}

// all goes over all texts of so many tokens that go on.
func (w *walk) all(words []string, most int) int {
	can := w.next(words)
	count := len(can)
	for _, word := range can {
		if most > 1 && !w.t.Failed() {
			w.goOn(word)
			count += w.all(words, most-1)
			w.goBack(word)
		}
	}
	return count
}

// most is how long all texts of a form are gone over.
var most = map[string]int{"Program": 7, "Statements": 4, "Expr": 4}

func TestAllShortTexts(t *testing.T) {
	for _, f := range forms {
		t.Run(f.name, func(t *testing.T) {
			t.Parallel()
			newWalk(t, f).all(vocabulary, 2)
			if count := newWalk(t, f).all(shortVocabulary, most[f.name]); count < 200 && !t.Failed() {
				t.Errorf("only %d texts go on", count)
			}
		})
	}
}

// likely takes what closes something more often than what opens something: else texts would only become deeper.
func likely(r *rand.Rand, can []string) string {
	var bag []string
	for _, word := range can {
		times := 2
		switch {
		case strings.Contains(" ; } ) ] : ", " "+word+" "):
			times = 12
		case strings.Contains(" a = := case default else in type struct for if switch { ", " "+word+" "):
			times = 6
		case strings.Contains(" func protocol var defer return _ , . ", " "+word+" "):
			times = 3
		case strings.Contains("+-*/%&|^<>=!", word[:1]):
			times = 1
		}
		for range times {
			bag = append(bag, word)
		}
	}
	return oneOf(r, bag...)
}

func TestWalks(t *testing.T) {
	for seed, f := range forms {
		t.Run(f.name, func(t *testing.T) {
			t.Parallel()
			r := dice(uint64(seed))
			for range 20 {
				w := newWalk(t, f)
				for can := w.next(vocabulary); len(can) > 0 && w.count < 40 && !t.Failed(); can = w.next(vocabulary) {
					w.goOn(likely(r, can))
				}
			}
		})
	}
}
