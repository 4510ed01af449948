package lex_test

import (
	"strings"
	"testing"

	"guise/api"
	"guise/lex"
)

func TestScanExamples(t *testing.T) {
	for _, c := range [][2]string{
		{"", ""},
		{"\n", ""},
		{";;", "end@0 | end@1"},
		{"x := 1.5\ny", "name x@0 | sign :=@2 | float 1.5@5 | end@8 | name y@9 | end@10"},
		{"a // b\n+ 1", "name a@0 | end@6 | sign +@7 | int 1@9 | end@10"},
		{"f(\n)", "name f@0 | sign (@1 | sign )@3 | end@4"},
		{"type T = map\n", "word type@0 | name T@5 | sign =@7 | word map@9 | end@12"},
		{"1.2.3", "float 1.2@0 | sign .@3 | int 3@4 | end@5"},
		{"1..2", "int 1@0 | sign .@1 | sign .@2 | int 2@3 | end@4"},
		{"l[0].f", "name l@0 | sign [@1 | int 0@2 | sign ]@3 | sign .@4 | name f@5 | end@6"},
		{"a<<=b>>c&&&d", "name a@0 | sign <<=@1 | name b@4 | sign >>@5 | name c@7 | sign &&@8 | sign &@10 | name d@11 | end@12"},
		{"007", "!number@0"},
		{"1a", "!number@0"},
		{"9223372036854775808", "!number@0"},
		{"00.5", "!number@0"},
		{"1. 2", "int 1@0 | sign .@1 | int 2@3 | end@4"},
		{"12345678.12345678", "!number@0"},
		{"x = 0x10", "!number@4"},
		{`"a\x41\n"`, "text aA\n@0 | end@9"},
		{"\"a\n", "!quote@0"},
		{`"\q"`, "!quote@1"},
		{`"\x4"`, "!quote@1"},
		{`"a\`, "!quote@2"},
		{"a # b", "!byte@2"},
		{"\r", "!byte@0"},
		{"é", "!byte@0"},
	} {
		wantScan(t, c[0], c[1])
	}
}

func TestSourceLimit(t *testing.T) {
	wantScan(t, strings.Repeat(" ", api.MaxSource), "")
	wantScan(t, strings.Repeat(" ", api.MaxSource-1)+"a", "name a@59999 | end@60000")
	wantScan(t, strings.Repeat(" ", api.MaxSource-1)+"#", "!byte@59999")
	wantScan(t, strings.Repeat(" ", api.MaxSource)+" ", "!long@0")
	wantScan(t, strings.Repeat("#", api.MaxSource+1), "!long@0")
	said := strings.Repeat("é", (api.MaxSource-2)/2)
	wantScan(t, `"`+said+`"`, "text "+said+"@0 | end@60000")
	tokens, err := lex.Scan(strings.Repeat(";", api.MaxSource))
	if err != nil || len(tokens) != api.MaxSource {
		t.Error("as many ends as bytes:", len(tokens), err)
	}
}

func TestNameLimit(t *testing.T) {
	forty := strings.Repeat("aZ_9", api.MaxName/4)
	wantScan(t, forty, "name "+forty+"@0 | end@40")
	wantScan(t, "x = "+forty+"1", "!long@4")
	wantScan(t, " "+strings.Repeat("_", 1000), "!long@1")
	wantScan(t, forty+" "+forty, "name "+forty+"@0 | name "+forty+"@41 | end@81")
}

func TestEveryFirstByte(t *testing.T) {
	for i := range 256 {
		s := string([]byte{byte(i)})
		want := "!byte@0"
		switch {
		case among(s, signList):
			want = "sign " + s + "@0"
			if among(s, enders) {
				want += " | end@1"
			}
		case i >= 'a' && i <= 'z' || i >= 'A' && i <= 'Z' || i == '_':
			want = "name " + s + "@0 | end@1"
		case i >= '0' && i <= '9':
			want = "int " + s + "@0 | end@1"
		case i == ';':
			want = "end@0"
		case i == '"':
			want = "!quote@0"
		case i == ' ' || i == '\t' || i == '\n':
			want = ""
		}
		wantScan(t, s, want)
		if want == "!byte@0" {
			wantScan(t, "ab "+s, "!byte@3")
			wantScan(t, "ab"+s+"#", "!byte@2")
		}
	}
}

func TestEveryLongestSign(t *testing.T) {
	alphabet := "+-*/%&|^!<>=()[]{},.:"
	for _, a := range alphabet {
		for _, b := range alphabet {
			for _, c := range alphabet {
				checkLongestSign(t, string([]rune{a, b, c}))
			}
		}
	}
}

func checkLongestSign(t *testing.T, s string) {
	t.Helper()
	tokens, err := lex.Scan(s)
	if err != nil {
		t.Fatalf("Scan(%q): %v", s, err)
	}
	if strings.HasPrefix(s, "//") {
		if len(tokens) > 0 {
			t.Errorf("Scan(%q): tokens in a remark", s)
		}
		return
	}
	for n := 3; n > 0; n-- {
		if among(s[:n], signList) {
			if tokens[0] != (api.Token{Kind: api.TokSign, Text: s[:n]}) {
				t.Errorf("Scan(%q): the first token is %v", s, tokens[0])
			}
			return
		}
	}
}

func TestWordsAndSignsAsTokens(t *testing.T) {
	for _, w := range strings.Fields(wordList) {
		tokens, err := lex.Scan(" " + w)
		if err != nil || len(tokens) == 0 || tokens[0] != (api.Token{Kind: api.TokWord, Text: w, At: 1}) {
			t.Errorf("the word %s: %v, %v", w, tokens, err)
		}
		for _, other := range []string{w + "s", w + "_", "x" + w, w + "1", strings.ToUpper(w)} {
			wantScan(t, other+";", "name "+other+"@0 | end@"+itoa(len(other)))
		}
	}
	for _, s := range strings.Fields(signList) {
		tokens, err := lex.Scan("\t" + s + " ")
		if err != nil || len(tokens) == 0 || tokens[0] != (api.Token{Kind: api.TokSign, Text: s, At: 1}) {
			t.Errorf("the sign %s: %v, %v", s, tokens, err)
		}
	}
}

func TestNumbersThatMayBe(t *testing.T) {
	for _, s := range []string{"0", "9", "10", "1000000000000000000", "9223372036854775807", "9223372036854775799", "8999999999999999999"} {
		wantScan(t, s, "int "+s+"@0 | end@"+itoa(len(s)))
	}
	for _, s := range []string{"0.0", "0.5", "10.0", "1.007", "0.00000000000001", "12345678901234.5", "1.00000000000000", "1234567.12345678"} {
		wantScan(t, s, "float "+s+"@0 | end@"+itoa(len(s)))
	}
	wantScan(t, "1.a", "int 1@0 | sign .@1 | name a@2 | end@3")
	wantScan(t, "1._", "int 1@0 | sign .@1 | name _@2 | end@3")
	wantScan(t, "0.1.02", "!number@4")
	wantScan(t, "1.", "int 1@0 | sign .@1")
	wantScan(t, ".5", "sign .@0 | int 5@1 | end@2")
	wantScan(t, "-5", "sign -@0 | int 5@1 | end@2")
	wantScan(t, `1"a"2`, `int 1@0 | text a@1 | int 2@4 | end@5`)
}

func TestNumbersThatMayNotBe(t *testing.T) {
	for _, s := range []string{
		"00", "01", "007", "00.5", "01.5", "000000000000000",
		"9223372036854775808", "9300000000000000000", "10000000000000000000", "92233720368547758070", strings.Repeat("9", 5000),
		"1a", "1_", "1Z", "0x10", "1e5", "1.5a", "1.5_", "1.5e3", "0.0f", "7for",
		"1234567890123456.0", "0.000000000000001", "1.000000000000000", "12345678.12345678", strings.Repeat("1", 20) + ".1",
	} {
		wantScan(t, s, "!number@0")
		wantScan(t, "x+ "+s+" #", "!number@3")
	}
	wantScan(t, "1é", "!byte@1")
	wantScan(t, "1.5é", "!byte@3")
}

func TestLiterals(t *testing.T) {
	for _, c := range [][2]string{
		{`""`, "text @0 | end@2"},
		{` "//;" `, "text //;@1 | end@7"},
		{`"\\" "\""`, "text \\@0 | text \"@5 | end@9"},
		{`"\x00\xfF\xAb"`, "text \x00\xff\xab@0 | end@14"},
		{`"\x41" + "b"`, "text A@0 | sign +@7 | text b@9 | end@12"},
		{`"a""b"`, "text a@0 | text b@3 | end@6"},
		{"\"é\xff\xe2\x82\"", "text é\xff\xe2\x82@0 | end@7"},
		{"\"\r\t\x00 \"", "text \r\t\x00 @0 | end@6"},
		{`"`, "!quote@0"},
		{`  "abc`, "!quote@2"},
		{"x = \"abc\n\"", "!quote@4"},
		{`"\"`, "!quote@0"},
		{`"a\n`, "!quote@0"},
		{"\"\\\n\"", "!quote@1"},
		{"\"\\x4\n\"", "!quote@1"},
		{`"ab\`, "!quote@3"},
		{`"ab\x`, "!quote@3"},
		{`"ab\x4`, "!quote@3"},
		{`"ab\x41`, "!quote@0"},
		{`"a" "\x4g"`, "!quote@5"},
		{`"\X41"`, "!quote@1"},
		{`"\é"`, "!quote@1"},
		{"\"\\q\n", "!quote@1"},
		{"\"a\n\\q\"", "!quote@0"},
	} {
		wantScan(t, c[0], c[1])
	}
}

func TestEveryByteInALiteral(t *testing.T) {
	for i := range 256 {
		b := string([]byte{byte(i)})
		if b != `"` && b != `\` && b != "\n" {
			wantScan(t, `"a`+b+`b"`, "text a"+b+"b@0 | end@5")
		}
		if !strings.Contains(`nt\"x`, b) {
			wantScan(t, `"a\`+b+`b"`, "!quote@2")
		}
		for j := range 256 {
			checkEscapeByNumber(t, byte(i), byte(j))
		}
	}
}

func checkEscapeByNumber(t *testing.T, high, low byte) {
	t.Helper()
	const digits = "0123456789abcdef"
	h := strings.IndexByte(digits, lowered(high))
	l := strings.IndexByte(digits, lowered(low))
	want := "!quote@1"
	if h >= 0 && l >= 0 {
		want = "=" + string([]byte{byte(h*16 + l)})
	}
	wantUnquote(t, `"\x`+string([]byte{high, low})+`"`, want)
}

func lowered(b byte) byte {
	if b >= 'A' && b <= 'Z' {
		return b + 'a' - 'A'
	}
	return b
}

func TestFirstWrongIsTold(t *testing.T) {
	for _, c := range [][2]string{
		{`1a # "`, "!number@0"},
		{`# 1a "`, "!byte@0"},
		{`" 1a #`, "!quote@0"},
		{"a\n1a\n#", "!number@2"},
		{"a\n// 1a #\n#", "!byte@10"},
		{strings.Repeat("a", 41) + "#", "!long@0"},
		{"#" + strings.Repeat("a", 41), "!byte@0"},
	} {
		wantScan(t, c[0], c[1])
	}
}

func TestRemarks(t *testing.T) {
	for _, c := range [][2]string{
		{"//", ""},
		{"// a", ""},
		{"//\xff\x00\"\\é\r", ""},
		{"a//", "name a@0 | end@3"},
		{"a // b", "name a@0 | end@6"},
		{"a ///= b\n", "name a@0 | end@8"},
		{"a + // b\nc", "name a@0 | sign +@2 | name c@9 | end@10"},
		{"a / /b", "name a@0 | sign /@2 | sign /@4 | name b@5 | end@6"},
		{"a /=// b", "name a@0 | sign /=@2"},
		{"a // b ; c\n;", "name a@0 | end@10 | end@11"},
		{"// b\n\n// c", ""},
	} {
		wantScan(t, c[0], c[1])
	}
}

func TestEnds(t *testing.T) {
	for _, s := range append(strings.Fields(wordList+" "+signList), "x", "_", "1", "1.5", `"a"`) {
		ends := among(s, enders) || s == "x" || s == "_" || s == "1" || s == "1.5" || s == `"a"`
		n := len(s)
		for behind, at := range map[string]int{"": n, "\n": n, "\n\n": n, " \t\n": n + 2, " // r\n": n + 5, " // r": n + 5, "\n\n ": n} {
			tokens, err := lex.Scan(s + behind)
			if err != nil || len(tokens) == 0 || tokens[0].Kind == api.TokEnd {
				t.Fatalf("Scan(%q): %v, %v", s+behind, tokens, err)
			}
			got := toldTokens(tokens[1:])
			if want := map[bool]string{true: "end@" + itoa(at)}[ends]; got != want {
				t.Errorf("Scan(%q): behind the first token %q; must be %q", s+behind, got, want)
			}
		}
		tokens, err := lex.Scan(s + " ;\n;")
		if err != nil || toldTokens(tokens[1:]) != "end@"+itoa(n+1)+" | end@"+itoa(n+3) {
			t.Errorf("semicolons behind %s: %v, %v", s, tokens, err)
		}
	}
	wantScan(t, ";\n\n;\n", "end@0 | end@3")
	wantScan(t, "\n \t\n// a\n", "")
	wantScan(t, "a\n\n\nb", "name a@0 | end@1 | name b@4 | end@5")
}
