package lex

import "guise/api"

const greatestInt = "9223372036854775807"

func numberAt(s string, at int) (api.Token, int, error) {
	whole := span(s[at:], isDigit)
	part := partLength(s[at+whole:])
	kind, end, allowed := api.TokInt, at+whole, isInt(s[at:at+whole])
	if part > 0 {
		kind, end, allowed = api.TokFloat, at+whole+1+part, whole+part <= api.MaxDigits
	}
	if !allowed || whole > 1 && s[at] == '0' || span(s[end:], isNamePart) > 0 {
		return api.Token{}, 0, wrong(api.ErrNumber, at)
	}
	return standing(kind, s, at, end), end, nil
}

// partLength is how many digits stand behind a dot that s begins with; a dot without any is none of a number.
func partLength(s string) int {
	if s == "" || s[0] != '.' {
		return 0
	}
	return span(s[1:], isDigit)
}

// isInt holds digits against the greatest int as texts, since there may be any number of them.
func isInt(digits string) bool {
	if len(digits) != len(greatestInt) {
		return len(digits) < len(greatestInt)
	}
	return digits <= greatestInt
}
