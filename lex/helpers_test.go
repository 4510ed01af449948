package lex_test

import (
	"errors"
	"math/rand/v2"
	"strconv"
	"strings"
	"testing"

	"guise/api"
	"guise/lex"
)

// wordList and signList are written out from the chapter, so that the package's own tables are held against something.
const wordList = "any break case continue default defer else fallthrough false for func if in map nil protocol return struct switch true type var"

const signList = "<<= >>= := == != <= >= && || << >> += -= *= /= %= &= |= ^= ++ -- + - * / % & | ^ ! < > = ( ) [ ] { } , . :"

const enders = "any break continue fallthrough false func map nil return true ) ] } ++ --"

func among(s, list string) bool {
	for _, w := range strings.Fields(list) {
		if w == s {
			return true
		}
	}
	return false
}

// toldError writes an error as its code and place.
func toldError(t *testing.T, err error) string {
	t.Helper()
	var w *api.Wrong
	if !errors.As(err, &w) || w == nil {
		t.Fatalf("%v is no *api.Wrong", err)
	}
	if w.Name != "" {
		t.Errorf("the error has the name %q", w.Name)
	}
	if !errors.Is(err, w.Code) {
		t.Errorf("errors.Is does not find the code %d", w.Code)
	}
	for _, word := range [][2]any{{api.ErrByte, "byte"}, {api.ErrQuote, "quote"}, {api.ErrNumber, "number"}, {api.ErrLong, "long"}} {
		if word[0] == w.Code {
			return "!" + word[1].(string) + "@" + strconv.Itoa(w.At)
		}
	}
	t.Errorf("a code that lex has not: %d", w.Code)
	return ""
}

func toldTokens(tokens []api.Token) string {
	var out []string
	for _, k := range tokens {
		kind := "?"
		switch k.Kind {
		case api.TokEnd:
			kind = "end"
		case api.TokName:
			kind = "name "
		case api.TokWord:
			kind = "word "
		case api.TokInt:
			kind = "int "
		case api.TokFloat:
			kind = "float "
		case api.TokText:
			kind = "text "
		case api.TokSign:
			kind = "sign "
		}
		out = append(out, kind+k.Text+"@"+strconv.Itoa(k.At))
	}
	return strings.Join(out, " | ")
}

// scanned writes what Scan answers; beside an error there must be no tokens.
func scanned(t *testing.T, s string) string {
	t.Helper()
	tokens, err := lex.Scan(s)
	if err == nil {
		return toldTokens(tokens)
	}
	if len(tokens) > 0 {
		t.Errorf("Scan(%q): tokens beside an error", s)
	}
	return toldError(t, err)
}

func wantScan(t *testing.T, s, want string) {
	t.Helper()
	if got := scanned(t, s); got != want {
		t.Errorf("Scan(%.80q): %.200s; must be %.200s", s, got, want)
	}
}

// unquoted writes what Unquote answers; beside an error the text must be empty.
func unquoted(t *testing.T, s string) string {
	t.Helper()
	text, err := lex.Unquote(s)
	if err == nil {
		return "=" + text
	}
	if text != "" {
		t.Errorf("Unquote(%.80q): a text beside an error", s)
	}
	return toldError(t, err)
}

func wantUnquote(t *testing.T, s, want string) {
	t.Helper()
	if got := unquoted(t, s); got != want {
		t.Errorf("Unquote(%.80q): %.200q; must be %.200q", s, got, want)
	}
}

// dice gives the same numbers on every run.
func dice(seed uint64) *rand.Rand { return rand.New(rand.NewPCG(seed, 1)) }

func randomBytes(r *rand.Rand, n int) string {
	out := make([]byte, n)
	for i := range out {
		out[i] = byte(r.IntN(256))
	}
	return string(out)
}

// randomSource is pieces of programs in any order; some of them are wrong only if wrongToo is set.
func randomSource(r *rand.Rand, pieces int, wrongToo bool) string {
	right := append(strings.Fields(wordList+" "+signList), " ", "\t", "\n", ";", " ", "\n",
		"x", "_", "a1", strings.Repeat("n", 40), "0 ", "7 ", "12.5 ", "0.0 ", "9223372036854775807 ", "123456789012345 ", "1.\n", `"a"`, `"\x41\n\"\\\t"`,
		"\"\xff\xc3\xa9\r\"", "// remark\n", "//\xff\"\\\n", "// é\n")
	bad := []string{"007", "1a", "1.5_", "9223372036854775808", "12345678.12345678", "#", "\r", "é", "\xff", "'", `"`, `\`, `"\q"`, `"\x4"`, strings.Repeat("n", 41), "\x00", "//"}
	var out strings.Builder
	for range pieces {
		if wrongToo && r.IntN(6) == 0 {
			out.WriteString(bad[r.IntN(len(bad))])
		} else {
			out.WriteString(right[r.IntN(len(right))])
		}
	}
	return out.String()
}
