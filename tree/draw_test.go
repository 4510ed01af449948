package tree_test

import (
	"slices"
	"strconv"
	"strings"
	"testing"

	"guise/api"
	"guise/lex"
)

// drawn is what Print must tell, made in another way: texts are put together from the bottom up, lines are moved in by
// putting a tab behind each line feed, and heads are looked at as texts, for marks that stand within no brackets.

const (
	markOpen = "\x01"
	markShut = "\x02"
)

var unmark = strings.NewReplacer(markOpen, "", markShut, "")

func drawn(n api.Node) string { return unmark.Replace(draw(n)) }

func movedIn(s string) string { return strings.ReplaceAll(s, "\n", "\n\t") }

func drawEach(nodes []api.Node) []string {
	var out []string
	for _, n := range nodes {
		out = append(out, draw(n))
	}
	return out
}

func commas(nodes []api.Node) string { return strings.Join(drawEach(nodes), ", ") }

func braces(lines []string) string {
	out := "{"
	for _, line := range lines {
		out += movedIn("\n" + unmark.Replace(line))
	}
	return out + "\n}"
}

// drawnHead puts brackets at the marks that stand within none, and takes all others away.
func drawnHead(s string) string {
	var out strings.Builder
	deep, open, quoted := 0, []bool{}, false
	for i := 0; i < len(s); i++ {
		switch c := s[i]; {
		case quoted:
			if c == '\\' {
				out.WriteByte(c)
				i++
			}
			quoted = s[i] != '"' || c == '\\'
			out.WriteByte(s[i])
		case c == '"':
			quoted = true
			out.WriteByte(c)
		case c == markOpen[0]:
			open = append(open, deep == 0)
			if deep == 0 {
				out.WriteByte('(')
			}
			deep++
		case c == markShut[0]:
			deep--
			if open[len(open)-1] {
				out.WriteByte(')')
			}
			open = open[:len(open)-1]
		default:
			deep += strings.Count("([{", string(c)) - strings.Count(")]}", string(c))
			out.WriteByte(c)
		}
	}
	return out.String()
}

func levelOf(n api.Node) int {
	switch n.Kind {
	case api.NBinary:
		for i, row := range []string{"||", "&&", "== != < <= > >=", "+ - | ^", "* / % & << >>"} {
			if slices.Contains(strings.Fields(row), n.Text) {
				return i + 1
			}
		}
	case api.NUnary, api.NNew:
		return 6
	}
	return 7
}

// drawIf draws a part, in brackets if asked.
func drawIf(brackets bool, n api.Node) string {
	if brackets {
		return "(" + draw(n) + ")"
	}
	return draw(n)
}

func orNothing(n api.Node, ahead string) string {
	if n.Kind == api.NNone {
		return ""
	}
	return ahead + draw(n)
}

func labelled(n api.Node, s string) string {
	if n.Text == "" {
		return s
	}
	return n.Text + ": " + s
}

func draw(n api.Node) string {
	k := n.Kids
	kid := func(i int) string { return draw(k[i]) }
	first := func() string { return drawIf(levelOf(k[0]) < 7, k[0]) }
	switch kindName(n.Kind) {
	case "NProgram":
		out := ""
		for _, line := range drawEach(k) {
			out += line + "\n"
		}
		return out
	case "NType":
		return "type " + n.Text + " = " + kid(0)
	case "NStruct":
		return "type " + n.Text + " struct " + braces(drawEach(k))
	case "NProtocol":
		lines := drawEach(k)
		for i := range lines {
			lines[i] = strings.TrimPrefix(lines[i], ".")
		}
		return "protocol " + n.Text + " " + braces(lines)
	case "NFunc":
		return "func " + n.Text + "(" + kid(0) + ") " + kid(1)
	case "NMethodDecl":
		return "func (" + kid(0) + ") " + n.Text + "(" + kid(1) + ") " + kid(2)
	case "NVar":
		return "var " + n.Text + " = " + kid(0)
	case "NEmbed":
		return "." + n.Text
	case "NEmbedPointer":
		return ".*" + n.Text
	case "NMethod":
		return n.Text + "(" + strconv.Itoa(n.N) + ")"
	case "NReceiver":
		return n.Text + " " + kid(0)
	case "NParams":
		return commas(k)
	case "NPointer":
		return "*" + kid(0)
	case "NNone":
		return ""
	case "NText":
		return lex.Quote(n.Text)
	case "NList":
		return "[" + commas(k) + "]"
	case "NMap":
		return "map{" + commas(k) + "}"
	case "NPair":
		if n.Text != "" {
			return n.Text + ": " + kid(0)
		}
		return kid(0) + ": " + kid(1)
	case "NMake":
		return markOpen + n.Text + "{" + commas(k) + "}" + markShut
	case "NNew":
		return markOpen + "&" + strings.Trim(kid(0), markOpen+markShut) + markShut
	case "NLiteral":
		return "func(" + kid(0) + ") " + kid(1)
	case "NNilOf":
		return "nil(" + kid(0) + ")"
	case "NSelect":
		return first() + "." + n.Text
	case "NIndex":
		return first() + "[" + kid(1) + "]"
	case "NSlice":
		return first() + "[" + kid(1) + ":" + kid(2) + orNothing(k[3], ":") + "]"
	case "NCall":
		called := first()
		if called == "nil" && k[0].Kind == api.NName {
			called = "(nil)"
		}
		return called + "(" + commas(k[1:]) + ")"
	case "NAssert":
		return first() + ".(" + kid(1) + ")"
	case "NUnary":
		return n.Text + drawIf(levelOf(k[0]) < 6 || n.Text == "-" && k[0].Text == "-", k[0])
	case "NBinary":
		return drawIf(levelOf(k[0]) < levelOf(n), k[0]) + " " + n.Text + " " + drawIf(levelOf(k[1]) <= levelOf(n), k[1])
	case "NName", "NInt", "NFloat", "NField":
		return n.Text
	}
	return unmark.Replace(drawStatement(n))
}

func drawStatement(n api.Node) string {
	k := n.Kids
	kid := func(i int) string { return draw(k[i]) }
	switch kindName(n.Kind) {
	case "NBlock":
		return braces(drawEach(k))
	case "NDefine":
		return n.Text + " := " + kid(0)
	case "NDefineTwo":
		return kid(0) + ", " + kid(1) + " := " + kid(2)
	case "NAssignTwo":
		return kid(0) + ", " + kid(1) + " = " + kid(2)
	case "NAssign":
		return kid(0) + " " + n.Text + " " + kid(1)
	case "NIf":
		return "if " + drawnHead(kid(0)) + " " + kid(1) + orNothing(k[2], " else ")
	case "NFor":
		return labelled(n, "for"+drawnHead(orNothing(k[0], " "))+" "+kid(1))
	case "NRange":
		names := kid(0)
		if names == "" {
			names = "_"
		}
		return labelled(n, "for "+names+orNothing(k[1], ", ")+" in "+drawnHead(kid(2))+" "+kid(3))
	case "NSwitch":
		return labelled(n, "switch"+drawnHead(orNothing(k[0], " "))+" {\n"+strings.Join(drawEach(k[1:]), "")+"}")
	case "NTypeSwitch":
		variable := kid(0)
		if variable != "" {
			variable += " := "
		}
		return labelled(n, "switch "+variable+drawnHead(drawIf(levelOf(k[1]) < 7, k[1]))+".(type) {\n"+strings.Join(drawEach(k[2:]), "")+"}")
	case "NCase":
		out := "default:"
		if k[0].Kind == api.NList {
			out = "case " + commas(k[0].Kids) + ":"
		}
		for _, line := range drawEach(k[1].Kids) {
			out += movedIn("\n" + line)
		}
		return out + "\n"
	case "NReturn":
		return "return" + orNothing(k[0], " ")
	case "NDefer":
		return "defer " + kid(0)
	case "NDo":
		return kid(0)
	case "NBreak":
		return strings.TrimSuffix("break "+n.Text, " ")
	case "NContinue":
		return strings.TrimSuffix("continue "+n.Text, " ")
	case "NFall":
		return "fallthrough"
	case "NStep":
		return kid(0) + n.Text
	}
	return "?" + kindName(n.Kind)
}

func TestPrintIsAsDrawn(t *testing.T) {
	r := dice(7)
	for range 150 {
		for _, root := range roots() {
			n := grow(r, root, r.IntN(7))
			if want := drawn(n); len(want) <= api.MaxSource {
				wantPrint(t, n, want)
				checkLines(t, want)
			}
		}
	}
}

// checkLines: no line is empty, and none ends with a blank.
func checkLines(t *testing.T, text string) {
	t.Helper()
	if text == "" {
		return
	}
	for _, line := range strings.Split(strings.TrimSuffix(text, "\n"), "\n") {
		if line == "" || strings.HasSuffix(line, " ") || strings.HasSuffix(line, "\t") {
			t.Errorf("a line of %q is empty, or ends with a blank", text)
		}
	}
}
