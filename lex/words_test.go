package lex_test

import (
	"slices"
	"strconv"
	"strings"
	"testing"

	"guise/lex"
)

func itoa(n int) string { return strconv.Itoa(n) }

func TestWords(t *testing.T) {
	got := lex.Words()
	if !slices.Equal(got, strings.Fields(wordList)) {
		t.Error("the words:", got)
	}
	if len(got) != 22 || !slices.IsSorted(got) {
		t.Error("not twenty-two, rising:", got)
	}
}

func TestWord(t *testing.T) {
	for _, w := range strings.Fields(wordList) {
		if !lex.Word(w) || lex.Name(w) {
			t.Errorf("%s is a word, and no name", w)
		}
		for _, s := range []string{w + " ", " " + w, w + "x", w[1:], strings.ToUpper(w), w + "\x00", w + w} {
			if lex.Word(s) {
				t.Errorf("%q is no word", s)
			}
		}
	}
	for _, s := range []string{"", "a", "import", "go", "interface", "error", "int", "\xff", strings.Repeat("a", 100000)} {
		if lex.Word(s) {
			t.Errorf("%.50q is no word", s)
		}
	}
}

func TestName(t *testing.T) {
	for _, s := range []string{"_", "a1", "a", "Z", "_1", "__", "inn", "In", "int", "error", "import", strings.Repeat("a", 40), "z" + strings.Repeat("0", 39)} {
		if !lex.Name(s) {
			t.Errorf("%s is a name", s)
		}
	}
	for _, s := range []string{"", "in", "1a", "1", "a b", " a", "a ", "a.b", "a-b", "é", "aé", "a\xff", "\xffa", "a\x00", "a\n", "\"a\"", strings.Repeat("a", 41), strings.Repeat("_", 70000)} {
		if lex.Name(s) {
			t.Errorf("%.50q is no name", s)
		}
	}
}

func TestNameOfEveryByte(t *testing.T) {
	for i := range 256 {
		b := string([]byte{byte(i)})
		letter := i >= 'a' && i <= 'z' || i >= 'A' && i <= 'Z' || i == '_'
		digit := i >= '0' && i <= '9'
		if lex.Name(b) != letter {
			t.Errorf("Name(%q): %v", b, !letter)
		}
		if lex.Name("x"+b) != (letter || digit) || lex.Name("x"+b+"y") != (letter || digit) {
			t.Errorf("Name with %q behind a letter", b)
		}
	}
}
