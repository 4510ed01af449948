package lex_test

import (
	"fmt"
	"strings"
	"testing"

	"guise/api"
	"guise/lex"
)

func TestQuote(t *testing.T) {
	if got, want := lex.Quote("\"\\\n\t\x00\xffA"), `"\"\\\n\t\x00\xffA"`; got != want {
		t.Errorf("Quote: %s; must be %s", got, want)
	}
	if got := lex.Quote(""); got != `""` {
		t.Errorf("Quote of nothing: %s", got)
	}
	if got, want := lex.Quote("é€"), `"\xc3\xa9\xe2\x82\xac"`; got != want {
		t.Errorf("Quote: %s; must be %s", got, want)
	}
	for i := range 256 {
		want := fmt.Sprintf(`"\x%02x"`, i)
		switch {
		case i == '"':
			want = `"\""`
		case i == '\\':
			want = `"\\"`
		case i == '\n':
			want = `"\n"`
		case i == '\t':
			want = `"\t"`
		case i >= 32 && i <= 126:
			want = `"` + string([]byte{byte(i)}) + `"`
		}
		if got := lex.Quote(string([]byte{byte(i)})); got != want {
			t.Errorf("Quote of the byte %d: %s; must be %s", i, got, want)
		}
	}
}

func TestUnquote(t *testing.T) {
	for _, c := range [][2]string{
		{`""`, "="},
		{`"a"`, "=a"},
		{`"\n\t\\\"\x41\xFf"`, "=\n\t\\\"A\xff"},
		{"\"\xff\r é\"", "=\xff\r é"},
		{`"a" `, "!quote@3"},
		{`a`, "!quote@0"},
		{``, "!quote@0"},
		{` "a"`, "!quote@0"},
		{`\"a"`, "!quote@0"},
		{`"`, "!quote@0"},
		{`"a`, "!quote@0"},
		{"\"a\nb\"", "!quote@0"},
		{"\"a\"\n", "!quote@3"},
		{`"a"b"`, "!quote@3"},
		{`"a""b"`, "!quote@3"},
		{`"a\q`, "!quote@2"},
		{`"a\q" `, "!quote@2"},
		{`"a\`, "!quote@2"},
		{`"a\x4"`, "!quote@2"},
		{`"a\x`, "!quote@2"},
		{"\"a\xff\\é\"", "!quote@3"},
	} {
		wantUnquote(t, c[0], c[1])
	}
}

func TestUnquoteLimit(t *testing.T) {
	most := strings.Repeat("a", api.MaxText)
	wantUnquote(t, `"`+most+`"`, "="+most)
	wantUnquote(t, `"`+most+`a"`, "!long@0")
	wantUnquote(t, `"`+most+`a" `, "!quote@65539")
	wantUnquote(t, `"`+most+`a`, "!quote@0")
	wantUnquote(t, `"`+most+`a\q"`, "!quote@65538")
	escapes := strings.Repeat(`\x41`, api.MaxText)
	wantUnquote(t, `"`+escapes+`"`, "="+strings.Repeat("A", api.MaxText))
	wantUnquote(t, `"`+escapes+`\n"`, "!long@0")
	wantUnquote(t, `"`+strings.Repeat("b", 1000000)+`"`, "!long@0")
}

func TestUnquoteOfAnyBytes(t *testing.T) {
	r := dice(2)
	for range 5000 {
		s := randomBytes(r, r.IntN(12))
		want := "!quote@0"
		if rest := `"` + s; len(rest) < api.MaxSource {
			want = unquotedByScan(t, rest)
		}
		wantUnquote(t, `"`+s, want)
	}
}

// unquotedByScan is what Unquote must tell of a short text that begins with a quote, by what Scan tells of it.
func unquotedByScan(t *testing.T, s string) string {
	t.Helper()
	for n := 1; n <= len(s); n++ {
		tokens, err := lex.Scan(s[:n])
		if err == nil && len(tokens) == 2 && tokens[0].Kind == api.TokText && n < len(s) {
			return "!quote@" + itoa(n)
		}
		if err == nil && n == len(s) {
			return "=" + tokens[0].Text
		}
	}
	_, err := lex.Scan(s)
	return toldError(t, err)
}
