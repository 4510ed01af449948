package lex_test

import (
	"errors"
	"regexp"
	"slices"
	"strings"
	"testing"
	"unsafe"

	"guise/api"
	"guise/lex"
)

func TestThereAndBack(t *testing.T) {
	r := dice(3)
	for n := range 300 {
		checkThereAndBack(t, randomBytes(r, n))
		checkThereAndBack(t, randomSource(r, n/10, true))
	}
	checkThereAndBack(t, strings.Repeat("\xff", api.MaxText))
	checkThereAndBack(t, strings.Repeat("a", api.MaxText))
	checkThereAndBack(t, strings.Repeat("a", api.MaxSource-2))
	wantUnquote(t, lex.Quote(strings.Repeat("\xff", api.MaxText+1)), "!long@0")
}

// checkThereAndBack: what Quote writes is read again, by Scan as far as it fits into a source.
func checkThereAndBack(t *testing.T, s string) {
	t.Helper()
	if len(s) > api.MaxText {
		return
	}
	quoted := lex.Quote(s)
	wantUnquote(t, quoted, "="+s)
	if len(quoted) > api.MaxSource {
		wantScan(t, quoted, "!long@0")
		return
	}
	wantScan(t, quoted, "text "+s+"@0 | end@"+itoa(len(quoted)))
}

var gap = regexp.MustCompile(`^(?:[ \t\n]|//[^\n]*)*$`)

func TestGaps(t *testing.T) {
	r := dice(4)
	for range 3000 {
		checkGaps(t, randomSource(r, r.IntN(40), false))
	}
}

// checkGaps: each token stands where it is told, and between them is nothing else.
func checkGaps(t *testing.T, s string) {
	t.Helper()
	tokens, err := lex.Scan(s)
	if err != nil {
		return
	}
	behind := 0
	for _, k := range tokens {
		if k.At < behind || k.At > len(s) || !gap.MatchString(s[behind:k.At]) {
			t.Fatalf("Scan(%q): %v does not stand there, or not right behind the one ahead", s, k)
		}
		behind = k.At + standsFor(t, s, k)
	}
	if behind < len(s) && !gap.MatchString(s[behind:]) {
		t.Fatalf("Scan(%q): no token from %d on", s, behind)
	}
}

// standsFor is how many bytes of the source a token takes.
func standsFor(t *testing.T, s string, k api.Token) int {
	t.Helper()
	rest := s[k.At:]
	switch k.Kind {
	case api.TokEnd:
		if k.Text != "" || rest != "" && rest[0] != '\n' && rest[0] != ';' {
			t.Fatalf("Scan(%q): %v is no end", s, k)
		}
		return min(len(rest), 1)
	case api.TokText:
		for n := 2; n <= len(rest); n++ {
			if said, err := lex.Unquote(rest[:n]); err == nil {
				if said != k.Text {
					t.Fatalf("Scan(%q): the text is %q", s, k.Text)
				}
				return n
			}
		}
		t.Fatalf("Scan(%q): no literal at %d", s, k.At)
	}
	if k.Text == "" || !strings.HasPrefix(rest, k.Text) {
		t.Fatalf("Scan(%q): %v does not stand there", s, k)
	}
	return len(k.Text)
}

func TestLineByLine(t *testing.T) {
	r := dice(5)
	taken := 0
	for range 6000 {
		s, u := randomSource(r, r.IntN(12), false), randomSource(r, r.IntN(12), false)
		first, err1 := lex.Scan(s)
		second, err2 := lex.Scan(u)
		if err1 != nil || err2 != nil {
			continue
		}
		taken++
		for _, k := range second {
			k.At += len(s) + 1
			first = append(first, k)
		}
		wantScan(t, s+"\n"+u, toldTokens(first))
	}
	if taken < 1000 {
		t.Error("too few texts were taken:", taken)
	}
}

func TestWrongIsWrongOnItsLine(t *testing.T) {
	r := dice(6)
	for range 4000 {
		s := randomSource(r, r.IntN(30), true)
		want, at := "", 0
		for _, line := range strings.SplitAfter(s, "\n") {
			if _, err := lex.Scan(line); err != nil {
				var w *api.Wrong
				errors.As(err, &w)
				w.At += at
				want = toldError(t, w)
				break
			}
			at += len(line)
		}
		if _, err := lex.Scan(s); (err != nil) != (want != "") || want != "" && scanned(t, s) != want {
			t.Errorf("Scan(%q): %v; by its lines: %s", s, err, want)
		}
	}
}

func TestBlanks(t *testing.T) {
	r := dice(7)
	for range 1500 {
		checkBlanks(t, randomSource(r, r.IntN(15), false))
	}
}

// checkBlanks: blanks ahead of tokens, and blanks and remarks ahead of line feeds, change nothing but places.
func checkBlanks(t *testing.T, s string) {
	t.Helper()
	tokens, err := lex.Scan(s)
	if err != nil || len(s) > 1000 {
		return
	}
	for i, k := range tokens {
		checkPutIn(t, s, tokens, i, k.At, " ")
		checkPutIn(t, s, tokens, i, k.At, " \t\t ")
	}
	for at := range len(s) {
		if s[at] == '\n' {
			i, _ := slices.BinarySearchFunc(tokens, at, func(k api.Token, at int) int { return k.At - at })
			checkPutIn(t, s, tokens, i, at, "\t ")
			checkPutIn(t, s, tokens, i, at, " // a remark \"\\\xff;")
		}
	}
}

// checkPutIn puts something in at a place: the tokens from number i on are so many bytes further on, nothing else.
func checkPutIn(t *testing.T, s string, tokens []api.Token, i, at int, put string) {
	t.Helper()
	moved := slices.Clone(tokens)
	for j := i; j < len(moved); j++ {
		moved[j].At += len(put)
	}
	wantScan(t, s[:at]+put+s[at:], toldTokens(moved))
}

func TestErrorsAreNewAndNilItself(t *testing.T) {
	for _, s := range []string{"#", "1a", `"`, `"\q"`, strings.Repeat("a", 41), strings.Repeat(" ", 60001)} {
		_, a := lex.Scan(s)
		_, b := lex.Scan(s)
		if a == nil || b == nil || a == b {
			t.Errorf("Scan(%.50q): the errors are not new ones", s)
		}
		toldError(t, a)
	}
	if _, err := lex.Scan("a"); err != nil {
		t.Error("an error behind the interface:", err)
	}
	if _, err := lex.Unquote(`"a"`); err != nil {
		t.Error("an error behind the interface:", err)
	}
	_, a := lex.Unquote("a")
	_, b := lex.Unquote("a")
	if a == nil || a == b {
		t.Error("Unquote: the errors are not new ones")
	}
}

func TestAnswersAreNewMemory(t *testing.T) {
	words := lex.Words()
	for i := range words {
		words[i] = "x"
	}
	_ = append(words[:0], "y")
	if other := lex.Words(); other[0] != "any" || !lex.Word("any") || lex.Word("x") {
		t.Error("the words were written into:", other)
	}
	source := strings.Repeat("name 12 1.5 \"text\" return + (\n", 3)
	tokens, _ := lex.Scan(source)
	for _, k := range tokens {
		if shares(source, k.Text) {
			t.Errorf("the text of %v is a piece of the source", k)
		}
	}
	told := toldTokens(tokens)
	other, _ := lex.Scan(source)
	full := other[:cap(other)]
	for i := range full {
		full[i] = api.Token{Kind: 99}
	}
	if toldTokens(tokens) != told {
		t.Error("two answers share memory")
	}
	literal := `"abcdef"`
	if said, _ := lex.Unquote(literal); shares(literal, said) {
		t.Error("what Unquote answers is a piece of what it was given")
	}
	if quoted := lex.Quote(literal); shares(literal, quoted) {
		t.Error("what Quote answers is a piece of what it was given")
	}
}

// shares: whether part begins within the memory of whole.
func shares(whole, part string) bool {
	if whole == "" || part == "" {
		return false
	}
	from := uintptr(unsafe.Pointer(unsafe.StringData(whole)))
	at := uintptr(unsafe.Pointer(unsafe.StringData(part)))
	return from <= at && at < from+uintptr(len(whole))
}

func TestAnyBytesTwice(t *testing.T) {
	r := dice(8)
	for range 3000 {
		s := randomBytes(r, r.IntN(200))
		if scanned(t, s) != scanned(t, s) || unquoted(t, s) != unquoted(t, s) || lex.Quote(s) != lex.Quote(s) {
			t.Errorf("%q: two answers", s)
		}
		lex.Name(s)
		lex.Word(s)
	}
}
