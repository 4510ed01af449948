package lex

import (
	"strings"

	"guise/api"
)

// remark is what one begins with.
const remark = "//"

// word is one of the language, and whether a line may end behind it.
type word struct {
	text string
	ends bool
}

// words are rising: Words tells them so.
var words = []word{
	{"any", true},
	{"break", true},
	{"case", false},
	{"continue", true},
	{"default", false},
	{"defer", false},
	{"else", false},
	{"fallthrough", true},
	{"false", true},
	{"for", false},
	{"func", true},
	{"if", false},
	{"in", false},
	{"map", true},
	{"nil", true},
	{"protocol", false},
	{"return", true},
	{"struct", false},
	{"switch", false},
	{"true", true},
	{"type", false},
	{"var", false},
}

// signs have the longer ones first: the first that fits is the longest that stands there.
var signs = []string{
	"<<=", ">>=",
	":=", "==", "!=", "<=", ">=", "&&", "||", "<<", ">>",
	"+=", "-=", "*=", "/=", "%=", "&=", "|=", "^=", "++", "--",
	"+", "-", "*", "/", "%", "&", "|", "^", "!", "<", ">", "=",
	"(", ")", "[", "]", "{", "}", ",", ".", ":",
}

// Words is the words of the language, rising; Word tells whether a text is one, Name whether it is a name.
func Words() []string {
	out := make([]string, 0, len(words))
	for _, w := range words {
		out = append(out, w.text)
	}
	return out
}

func Word(s string) bool {
	for _, w := range words {
		if w.text == s {
			return true
		}
	}
	return false
}

func Name(s string) bool {
	if s == "" || len(s) > api.MaxName || Word(s) {
		return false
	}
	return span(s[:1], isLetter) == 1 && span(s, isNamePart) == len(s)
}

func wordEndsLine(s string) bool {
	for _, w := range words {
		if w.text == s {
			return w.ends
		}
	}
	return false
}

func signEndsLine(s string) bool {
	switch s {
	case ")", "]", "}", "++", "--":
		return true
	}
	return false
}

// signLength is how many bytes the sign has that s begins with, 0 if it begins with none.
func signLength(s string) int {
	for _, sign := range signs {
		if strings.HasPrefix(s, sign) {
			return len(sign)
		}
	}
	return 0
}

// span is how many bytes of s, from its front on, are of one kind.
func span(s string, isOf func(rune) bool) int {
	for i, r := range s {
		if !isOf(r) {
			return i
		}
	}
	return len(s)
}

func isLetter(r rune) bool {
	return 'a' <= r && r <= 'z' || 'A' <= r && r <= 'Z' || r == '_'
}

func isDigit(r rune) bool { return '0' <= r && r <= '9' }

func isNamePart(r rune) bool { return isLetter(r) || isDigit(r) }

func isInLine(r rune) bool { return r != '\n' }
