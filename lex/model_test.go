package lex_test

import (
	"regexp"
	"strconv"
	"strings"
	"testing"

	"guise/api"
)

// The model reads by patterns what the package reads by hand; both must tell the same of any bytes.

var (
	blankPattern   = regexp.MustCompile(`^(?:[ \t]|//[^\n]*)+`)
	namePattern    = regexp.MustCompile(`^[A-Za-z_][A-Za-z_0-9]*`)
	numberPattern  = regexp.MustCompile(`^([0-9]+)(?:\.([0-9]+))?`)
	literalPattern = regexp.MustCompile(`^"(?:[^"\\\n]|\\[nt\\"]|\\x[0-9a-fA-F]{2})*`)
	signPattern    = regexp.MustCompile(`^(?:` + strings.ReplaceAll(regexp.QuoteMeta(signList), " ", "|") + `)`)
)

func modelled(s string) string {
	if len(s) > 60000 {
		return "!long@0"
	}
	var tokens []api.Token
	last := ""
	add := func(kind int, text string, at int, ends bool) {
		tokens = append(tokens, api.Token{Kind: kind, Text: text, At: at})
		last = ""
		if ends {
			last = "ends"
		}
	}
	for at := 0; at < len(s); {
		rest, place := s[at:], strconv.Itoa(at)
		if m := blankPattern.FindString(rest); m != "" {
			at += len(m)
		} else if rest[0] == '\n' {
			if last == "ends" {
				add(api.TokEnd, "", at, false)
			}
			at++
		} else if rest[0] == ';' {
			add(api.TokEnd, "", at, false)
			at++
		} else if m := namePattern.FindString(rest); m != "" {
			if len(m) > 40 {
				return "!long@" + place
			}
			if among(m, wordList) {
				add(api.TokWord, m, at, among(m, enders))
			} else {
				add(api.TokName, m, at, true)
			}
			at += len(m)
		} else if m := numberPattern.FindStringSubmatch(rest); m != nil {
			kind := modelNumber(m, rest)
			if kind == 0 {
				return "!number@" + place
			}
			add(kind, m[0], at, true)
			at += len(m[0])
		} else if m := literalPattern.FindString(rest); m != "" {
			switch end := at + len(m); {
			case end < len(s) && s[end] == '\\':
				return "!quote@" + strconv.Itoa(end)
			case end == len(s) || s[end] == '\n':
				return "!quote@" + place
			}
			add(api.TokText, modelSaid(m[1:]), at, true)
			at += len(m) + 1
		} else if m := signPattern.FindString(rest); m != "" {
			add(api.TokSign, m, at, among(m, enders))
			at += len(m)
		} else {
			return "!byte@" + place
		}
	}
	if last == "ends" {
		add(api.TokEnd, "", len(s), false)
	}
	return toldTokens(tokens)
}

// modelNumber is the kind of a number, 0 if it may not be.
func modelNumber(m []string, rest string) int {
	behind := rest[len(m[0]):]
	if len(m[1]) > 1 && m[1][0] == '0' || regexp.MustCompile(`^[A-Za-z_0-9]`).MatchString(behind) {
		return 0
	}
	if m[2] != "" {
		if len(m[1])+len(m[2]) > 15 {
			return 0
		}
		return api.TokFloat
	}
	if _, err := strconv.ParseInt(m[1], 10, 64); err != nil {
		return 0
	}
	return api.TokInt
}

func modelSaid(inside string) string {
	return regexp.MustCompile(`\\(?:x..|.)`).ReplaceAllStringFunc(inside, func(e string) string {
		switch e[1] {
		case 'n':
			return "\n"
		case 't':
			return "\t"
		case 'x':
			n, _ := strconv.ParseUint(e[2:], 16, 8)
			return string([]byte{byte(n)})
		}
		return e[1:]
	})
}

func TestScanIsAsTheModel(t *testing.T) {
	r := dice(1)
	for i := 0; i < 6000 && !t.Failed(); i++ {
		s := randomSource(r, r.IntN(20), i%2 == 0)
		if i%5 == 0 {
			s = randomBytes(r, r.IntN(30))
		}
		wantScan(t, s, modelled(s))
	}
}

func FuzzScan(f *testing.F) {
	for _, s := range []string{"", "\n", ";;", "x := 1.5\ny", "a // b\n+ 1", `"a\x41\n"`, `"\q"`, "1.2.3", "a<<=b>>c&&&d", "9223372036854775808", "é", "\"\xff\"\xff"} {
		f.Add(s)
	}
	f.Fuzz(func(t *testing.T, s string) {
		wantScan(t, s, modelled(s))
		checkThereAndBack(t, s)
		checkGaps(t, s)
		checkBlanks(t, s)
	})
}
