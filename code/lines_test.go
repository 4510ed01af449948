package code_test

import (
	"fmt"
	"strconv"
	"strings"
	"testing"

	"guise/api"
	"guise/code"
)

func TestLines(t *testing.T) {
	p := program(beginning(null, code.Inst{Op: code.OpReturn, At: 60000}), declared("T.m", to(code.OpLiteral, 3), text(code.OpBinary, 0, "<<"), ret),
		declared("f", code.Inst{Op: code.OpSlice, A: 2, B: 3, At: 5}, ret), literal(1, []int{0, 1}, to(code.OpTaken, 1), ret), literal(3, []int{-2, -1}, text(code.OpText, 0, "a \"b\"\n\xff"), ret))
	p.Globals = []string{"x", "yz"}
	p.Funcs[1].Params, p.Funcs[1].Slots = 1, 2
	p.Funcs[1].Code = []code.Inst{to(code.OpLiteral, 3), to(code.OpStore, 1), text(code.OpText, 0, ""), ret}
	p.Funcs[2].Code = []code.Inst{null, {Op: code.OpSlice, A: 2, B: 3, At: 5}, ret}
	must := "globals x yz\n" +
		"func - 0 0 -1\n\tnil 0 0 0\n\treturn 0 0 60000\n" +
		"func T.m 1 2 -1\n\tliteral 3 0 0\n\tstore 1 0 0\n\ttext 0 0 0\n\treturn 0 0 0\n" +
		"func f 0 0 -1\n\tnil 0 0 0\n\tslice 2 3 5\n\treturn 0 0 0\n" +
		"func func 0 0 1 0 1\n\ttaken 1 0 0\n\treturn 0 0 0\n" +
		"func func 0 0 3 -2 -1\n\ttext 0 0 0 \"a \\\"b\\\"\\n\\xff\"\n\treturn 0 0 0\n"
	is(t, "P13.4: List", listed(t, p), must)
	is(t, "P13.4: Read", read(t, must), written(p))
	wantThereAndBack(t, "lines", p)
	is(t, "P13.4: List of the rich one", listed(t, rich()), modelList(rich()))
}

// Each operation by its name, and by no other one.
func TestOperationsByTheirNames(t *testing.T) {
	for i, o := range operations {
		s := "globals\nfunc - 0 1 -1\n\tnil 0 0 0\n\treturn 0 0 0\n\t" + o.name + " 7 8 9\n"
		must := "130 0"
		is(t, "P13.4: Read of "+o.name, read(t, s), must)
		for _, name := range []string{strings.ToUpper(o.name), "op" + o.name, o.name + "x", o.name[1:], strings.ToUpper(o.name[:1]) + o.name[1:], "", strconv.Itoa(i + 1), " " + o.name} {
			if name == "or" {
				continue
			}
			is(t, "P13.4: Read of "+name, read(t, strings.Replace(s, o.name+" 7", name+" 7", 1)), "130 5")
		}
	}
}

// lines is a text of these lines.
func lines(l ...string) string { return strings.Join(l, "\n") + "\n" }

func TestGlobalsLine(t *testing.T) {
	rest := "func - 0 0 -1\n\tnil 0 0 0\n\treturn 0 0 0\n"
	for line, must := range map[string]string{
		"globals a": "", "globals a b c": "", "globals _": "",
		"": "130 1", "global": "130 1", "globalsa": "130 1", "Globals": "130 1", " globals": "130 1", "globals ": "130 1", "globals  a": "130 1", "globals a ": "130 1", "globals a  b": "130 1", "\tglobals": "130 1", "globals\r": "130 1", "globals\t": "130 1",
		"func - 0 0 -1": "130 1", "\tnil 0 0 0": "130 1",
		// These are rows of bytes without blanks: what is no name, Right tells.
		"globals a\tb": "130 0", "globals \t": "130 0", "globals a a": "130 0", "globals if": "130 0", "globals 1": "130 0", "globals \x00\xff": "130 0", "globals a\r": "130 0", "globals -": "130 0", "globals " + tooLongName: "130 0", "globals " + longName: "",
	} {
		got := read(t, line+"\n"+rest)
		if must == "" {
			p := one(ends()...)
			p.Funcs[0].Slots = 0
			p.Globals = strings.Fields(line)[1:]
			must = written(p)
		}
		is(t, fmt.Sprintf("P13.4: Read of %q", line), got, must)
		is(t, "the model", modelRead(line+"\n"+rest), must)
	}
}

// wantLine: what is told where a line stands as the fifth one, behind a function's return.
func wantLine(t *testing.T, line, must string) {
	t.Helper()
	front := []string{"globals", "func - 0 3 -1", "\tnil 0 0 0", "\treturn 0 0 0"}
	s := lines(append(front, line, "\tnil 0 0 0", "\treturn 0 0 0")...)
	got := read(t, s)
	if must == "ok" && !strings.HasPrefix(got, "[]\n") || must != "ok" && got != must {
		t.Errorf("P13.4: Read with the line %q: %s; must be %s", brief(line), brief(got), must)
	}
	if got != modelRead(s) {
		t.Errorf("the model: with the line %q: %s; must be %s", brief(line), modelRead(s), got)
	}
}

func TestFunctionLines(t *testing.T) {
	for line, must := range map[string]string{
		"func f 0 0 -1": "ok", "func T.m 1 2 -1": "ok", "func func 0 0 0": "ok", "func func 0 0 0 0 1 2": "ok", "func f 13 13 -1": "ok",
		// lines that are none such
		"func": "130 5", "func f": "130 5", "func f 0": "130 5", "func f 0 0": "130 5", "func  0 0 -1": "130 5", "func f 0 0 -1 ": "130 5", "func f  0 0 -1": "130 5", "func f 0 0 -1  0": "130 5", " func f 0 0 -1": "130 5", "Func f 0 0 -1": "130 5", "funcs f 0 0 -1": "130 5", "function f 0 0 -1": "130 5",
		"func f 00 0 -1": "130 5", "func f 0 -0 -1": "130 5", "func f 0 0 -01": "130 5", "func f +0 0 -1": "130 5", "func f 0 0 --1": "130 5", "func f 0 a -1": "130 5", "func f 0 0 -": "130 5", "func f 0 0x1 -1": "130 5", "func f 0 0 1_0": "130 5", "func func 0 0 0 00": "130 5", "func func 0 0 0 a": "130 5", "func func 0 0 0 0 1 2 -0": "130 5", "func f 0 0 -1\t": "130 5", "func f\t0 0 -1": "130 5", "func f 0 0\t-1": "130 5",
		"func f 0 9223372036854775808 -1": "130 5", "func f 0 0 -9223372036854775809": "130 5", "func f 0 99999999999999999999999 -1": "130 5", "func f 0 0 -1\r": "130 5",
		"": "130 5", " ": "130 5", "globals": "130 5", "globals a": "130 5", "#": "130 5", "nil 0 0 0": "130 5", "func f 0 0 -1 \"a\"": "130 5",
		// lines that are such, of a program that is not right
		"func - 0 0 -1": "130 0", "func f 0 9223372036854775807 -1": "22 0", "func f 0 -9223372036854775808 -1": "130 0", "func f 14 14 -1": "130 0", "func f 2 1 -1": "130 0", "func f 0 0 0": "130 0", "func func 0 0 -1": "130 0", "func func 0 0 1": "130 0", "func func 0 0 0 3": "130 0", "func func 0 0 0 -1": "130 0", "func f 0 0 -1 0": "130 0", "func f 0 20001 -1": "22 0",
		"func if 0 0 -1": "130 0", "func a\tb 0 0 -1": "130 0", "func \xff\x00 0 0 -1": "130 0", "func -- 0 0 -1": "130 0", "func \t 0 0 -1": "130 0", "func \"a\" 0 0 -1": "130 0", "func 0 0 0 -1": "130 0", "func " + tooLongName + " 0 0 -1": "130 0",
	} {
		wantLine(t, line, must)
	}
}

func TestInstructionLines(t *testing.T) {
	long := strings.Repeat("a", api.MaxText)
	for line, must := range map[string]string{
		"\tnil 0 0 0": "ok", "\ttext 0 0 60000 \"a\"": "ok", "\ttext 0 0 0": "ok", "\ttext 0 0 0 \" \"": "ok", "\ttext 0 0 0 \"a b  c\"": "ok", "\ttext 0 0 0 \"\\x00\\xff\\n\\t\\\\\\\"~\"": "ok", "\tconvert 7 0 0 \"func\"": "ok", "\ttext 0 0 0 \"" + long + "\"": "ok", "\tint 0 0 0 \"-9223372036854775808\"": "ok",
		// lines that are none such
		"\t": "130 5", "\tnil": "130 5", "\tnil 0": "130 5", "\tnil 0 0": "130 5", "\tnil 0 0 0 ": "130 5", "\tnil 0 0 0 0": "130 5", "\tnil  0 0 0": "130 5", "\tnil 0 0  0": "130 5", "\t nil 0 0 0": "130 5", "\t\tnil 0 0 0": "130 5", "    nil 0 0 0": "130 5", "\tnil\t0 0 0": "130 5", "\tnil 0 0 0\t": "130 5", "\tnil 0 0 0\r": "130 5", "\tNil 0 0 0": "130 5", "\tnone 0 0 0": "130 5", "\tOpNil 0 0 0": "130 5", "\t7 0 0 0": "130 5",
		"\tnil 00 0 0": "130 5", "\tnil 0 -0 0": "130 5", "\tnil 0 0 +0": "130 5", "\tnil 0 0 a": "130 5", "\tnil 0 0 9223372036854775808": "130 5", "\tnil -9223372036854775809 0 0": "130 5",
		"\ttext 0 0 0 \"\"": "130 5", "\ttext 0 0 0 a": "130 5", "\ttext 0 0 0 \"": "130 5", "\ttext 0 0 0 \"a": "130 5", "\ttext 0 0 0 \"a\" ": "130 5", "\ttext 0 0 0  \"a\"": "130 5", "\ttext 0 0 0 \"a\"\"b\"": "130 5", "\ttext 0 0 0 \"a\" \"b\"": "130 5", "\ttext 0 0 0 'a'": "130 5", "\ttext 0 0 0\"a\"": "130 5",
		// not just as Quote writes it
		"\ttext 0 0 0 \"\\x41\"": "130 5", "\ttext 0 0 0 \"\\xFF\"": "130 5", "\ttext 0 0 0 \"\\x0a\"": "130 5", "\ttext 0 0 0 \"\\x09\"": "130 5", "\ttext 0 0 0 \"\\x22\"": "130 5", "\ttext 0 0 0 \"\\x5c\"": "130 5", "\ttext 0 0 0 \"\t\"": "130 5", "\ttext 0 0 0 \"\xff\"": "130 5", "\ttext 0 0 0 \"\x00\"": "130 5", "\ttext 0 0 0 \"\\q\"": "130 5", "\ttext 0 0 0 \"\\x4\"": "130 5", "\ttext 0 0 0 \"\x7f\"": "130 5", "\ttext 0 0 0 \"\\x7f\"": "ok", "\ttext 0 0 0 \"\\x7F\"": "130 5", "\ttext 0 0 0 \"é\"": "130 5",
		"\ttext 0 0 0 \"" + long + "a\"": "130 5", "\ttext 0 0 0 \"" + strings.Repeat("\\xff", api.MaxText) + "\"": "ok", "\ttext 0 0 0 \"" + strings.Repeat("\\xff", api.MaxText+1) + "\"": "130 5", "\tnil 0 0 0 \"" + long + "a\"": "130 5",
		// lines that are such, of a program that is not right
		"\tnil 1 0 0": "130 0", "\tnil 0 9223372036854775807 0": "130 0", "\tnil -9223372036854775808 0 0": "130 0", "\tnil 0 0 60001": "130 0", "\tnil 0 0 -1": "130 0", "\tnil 0 0 0 \"a\"": "130 0", "\tint 0 0 0": "130 0", "\tint 0 0 0 \"007\"": "130 0", "\tload 3 0 0": "130 0", "\tload 2 0 0": "ok", "\tjump 9 0 0": "130 0",
	} {
		wantLine(t, line, must)
	}
}

// The first line that is none such is told, and one that does not end.
func TestWhichLine(t *testing.T) {
	for s, must := range map[string]string{
		"": "130 1", "\n": "130 1", "\n\n": "130 1", "globals": "130 1", "globals a b": "130 1", "x": "130 1", "globals\n": "22 0", "globals a a\n": "22 0",
		"globals\n\n": "130 2", "globals\nfunc - 0 0 -1": "130 2", "globals\nfunc - 0 0 -1\n": "130 0", "globals\nfunc - 0 0 -1\n\n": "130 3", "globals\nglobals\n": "130 2", "globals\n\tnil 0 0 0\n": "130 2", "globals\n\treturn 0 0 0\nfunc - 0 0 -1\n": "130 2",
		"globals\nfunc - 0 0 -1\n\tnil 0 0 0\n\treturn 0 0 0": "130 4", "globals\nfunc - 0 0 -1\n\tnil 0 0 0\n\treturn 0 0 0\n ": "130 5", "globals\nfunc - 0 0 -1\n\tnil 0 0 0\n\treturn 0 0 0\n\n": "130 5",
		"globals\nx\ny\nz": "130 2", "globals\nfunc - 0 0 -1\nx\ny": "130 3", "globals\nfunc - 0 0 -1\n\tpop 0 0 0\nx": "130 4", "globals if\nfunc - 0 0 -1\nx\n": "130 3", "x\ny": "130 1",
		"func - 0 0 -1\nglobals\n": "130 1", "globals\nfunc - 0 0 -1\n\tnil 0 0 0\nglobals\n": "130 4",
	} {
		is(t, fmt.Sprintf("P13.4: Read(%q)", s), read(t, s), must)
		is(t, fmt.Sprintf("the model: Read(%q)", s), modelRead(s), must)
	}
	many := "globals\n" + strings.Repeat("func f 0 0 -1\n", 1000)
	is(t, "P13.4: a line far behind", read(t, many+"x\n"), "130 1002")
}

// Of what Right tells Read has the code alone.
func TestReadTellsTheCodeAlone(t *testing.T) {
	for _, f := range faults() {
		p := sound()
		f.do(&p)
		first, _, _ := strings.Cut(f.must, " ")
		is(t, "P13.4: Read: "+f.what, read(t, modelList(p)), first+" 0")
		is(t, "P13.3: Decode: "+f.what, decode(t, modelEncode(p)), f.must)
	}
}

// Cut at every place: a program only where the next function would begin; each byte turned, put in and left out.
func TestLinesTurned(t *testing.T) {
	for _, p := range []code.Program{one(ends()...), altered(4, func(f *code.Func) {}), rich()} {
		s := listed(t, p)
		for i := range len(s) {
			taken := linesAsTheModel(t, s[:i])
			if taken && (!strings.HasSuffix(s[:i], "\n") || !strings.HasPrefix(s[i:], "func ")) {
				t.Errorf("P13.4: %q is a program", s[:i])
			}
			linesAsTheModel(t, s[:i]+s[i+1:])
			for c := range 256 {
				if (len(s) > 300 || i > 50) && c%51 != 0 && !strings.Contains(" \t\n\"\\-0a", string(rune(c))) {
					continue
				}
				linesAsTheModel(t, s[:i]+string([]byte{byte(c)})+s[i+1:])
				linesAsTheModel(t, s[:i]+string([]byte{byte(c)})+s[i:])
			}
		}
	}
}
