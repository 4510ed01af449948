// Package lex: tokens: layer 1: see shared/doc/01-lex.md.
package lex

import (
	"strings"

	"guise/api"
)

// Scan cuts a text to tokens; an error is a *api.Wrong.
func Scan(s string) ([]api.Token, error) {
	if len(s) > api.MaxSource {
		return nil, wrong(api.ErrLong, 0)
	}
	var tokens []api.Token
	next := 0 // what stands ahead of here has been read with the token that began there
	for at, r := range s {
		switch {
		case at < next, r == ' ', r == '\t':
		case r == '\n':
			tokens = endLine(tokens, at)
		case strings.HasPrefix(s[at:], remark):
			next = at + span(s[at:], isInLine)
		default:
			token, end, err := tokenAt(s, at, r)
			if err != nil {
				return nil, err
			}
			tokens = append(tokens, token)
			next = end
		}
	}
	return endLine(tokens, len(s)), nil
}

// endLine tells a line's end at a place, if the last token is one that ends a line.
func endLine(tokens []api.Token, at int) []api.Token {
	if len(tokens) == 0 || !endsLine(tokens[len(tokens)-1]) {
		return tokens
	}
	return append(tokens, api.Token{Kind: api.TokEnd, At: at})
}

func endsLine(t api.Token) bool {
	switch t.Kind {
	case api.TokName, api.TokInt, api.TokFloat, api.TokText:
		return true
	case api.TokWord:
		return wordEndsLine(t.Text)
	case api.TokSign:
		return signEndsLine(t.Text)
	}
	return false
}

// tokenAt reads the token that begins at a place, with r, and tells the place behind it.
func tokenAt(s string, at int, r rune) (api.Token, int, error) {
	switch {
	case r == ';':
		return api.Token{Kind: api.TokEnd, At: at}, at + 1, nil
	case r == '"':
		return textAt(s, at)
	case isLetter(r):
		return nameAt(s, at)
	case isDigit(r):
		return numberAt(s, at)
	}
	return signAt(s, at)
}

func textAt(s string, at int) (api.Token, int, error) {
	said, end, err := literalAt(s, at)
	if err != nil {
		return api.Token{}, 0, err
	}
	return api.Token{Kind: api.TokText, Text: said, At: at}, end, nil
}

func nameAt(s string, at int) (api.Token, int, error) {
	end := at + span(s[at:], isNamePart)
	if end-at > api.MaxName {
		return api.Token{}, 0, wrong(api.ErrLong, at)
	}
	kind := api.TokName
	if Word(s[at:end]) {
		kind = api.TokWord
	}
	return standing(kind, s, at, end), end, nil
}

func signAt(s string, at int) (api.Token, int, error) {
	length := signLength(s[at:])
	if length == 0 {
		return api.Token{}, 0, wrong(api.ErrByte, at)
	}
	return standing(api.TokSign, s, at, at+length), at + length, nil
}

// standing is a token that says what stands there; its text is a copy, so that the whole source is not kept by it.
func standing(kind int, s string, at, end int) api.Token {
	return api.Token{Kind: kind, Text: strings.Clone(s[at:end]), At: at}
}

func wrong(code api.Errno, at int) error {
	return &api.Wrong{Code: code, At: at}
}
