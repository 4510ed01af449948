package tree_test

import (
	"math/rand/v2"
	"slices"
	"strconv"
	"strings"
	"testing"

	"guise/api"
	"guise/lex"
	"guise/tree"
)

// table is the chapter's table: kind, Text, Kids. A part of the Kids is a name of `parts`; `..` behind the last one: none
// or more of it, `+` one or more, `<30` at most so many. Kinds with a second row are told apart by what they stand in.
const table = `
NProgram      | -      | decl ..
NType         | name   | declaredAs
NStruct       | name   | field <30
NProtocol     | name   | wish <60
NFunc         | name   | NParams NBlock
NMethodDecl   | name   | NReceiver NParams NBlock
NVar          | name   | e
NField        | name   |
NEmbed        | name   |
NEmbedPointer | name   |
NMethod       | name   |
NReceiver     | name   | name|NPointer
NParams       | -      | name <12
NName         | any    |
NPointer      | -      | name
NNone         | -      |
NBlock        | -      | s ..
NDefine       | name   | e
NDefineTwo    | -      | name name NAssert|NIndex
NAssignTwo    | -      | name name NAssert|NIndex
NAssign       | assign | p e
NIf           | -      | e NBlock NBlock|NIf|NNone
NFor          | label  | e|NNone NBlock
NRange        | label  | name|NNone name|NNone e NBlock
NSwitch       | label  | e|NNone NCase:values ..
NTypeSwitch   | label  | name|NNone e NCase:types ..
NCase:values  | -      | NList:values|NNone NBlock
NCase:types   | -      | NList:types|NNone NBlock
NReturn       | -      | e|NNone
NDefer        | -      | NCall
NDo           | -      | NCall
NBreak        | label  |
NContinue     | label  |
NFall         | -      |
NStep         | step   | p
NInt          | int    |
NFloat        | float  |
NText         | text   |
NList         | -      | e ..
NList:values  | -      | e +
NList:types   | -      | T|nil +
NMap          | -      | NPair:map ..
NMake         | name   | NPair:make ..
NPair:map     | -      | e e
NPair:make    | name   | e
NNew          | -      | NMake
NLiteral      | -      | NParams NBlock
NNilOf        | -      | nilable
NSelect       | name   | e
NIndex        | -      | e e
NSlice        | -      | e e|NNone e|NNone e|NNone
NCall         | -      | e|map e ..
NAssert       | -      | e T
NUnary        | unary  | e
NBinary       | binary | e e
`

// parts are what stands in the table's third column: kinds, with what an NName or an NUnary may say there.
var parts = map[string]string{
	"decl":       "NType|NStruct|NProtocol|NFunc|NMethodDecl|NVar",
	"field":      "NField|NEmbed|NEmbedPointer",
	"wish":       "NMethod|NEmbed",
	"name":       "NName=name",
	"declaredAs": "NName=name|NName=map|NName=func",
	"nil":        "NName=nil",
	"map":        "NName=map",
	"T":          "NName=name|NName=map|NName=func|NName=any|NPointer",
	"nilable":    "NName=name|NName=map|NName=func|NPointer",
	"e": "NName=name|NName=true|NName=false|NName=nil|NInt|NFloat|NText|NList|NMap|NMake|NNew|NLiteral|NNilOf|NSelect|" +
		"NIndex|NSlice|NCall|NAssert|NUnary|NBinary",
	"p": "NName=name|NSelect|NIndex|NUnary=*",
	"s": "NBlock|NDefine|NDefineTwo|NAssign|NAssignTwo|NIf|NFor|NRange|NSwitch|NTypeSwitch|NReturn|NDefer|NDo|NBreak|" +
		"NContinue|NFall|NStep",
	"own": strings.Join(kindNames, "|"),
}

type row struct {
	text  string
	kids  []string
	least int
	most  int
}

var rows = readRows()

func readRows() map[string]row {
	out := map[string]row{}
	for _, line := range strings.Split(strings.TrimSpace(table), "\n") {
		cells := strings.SplitN(line, " | ", 3)
		if len(cells) < 3 {
			cells = append(strings.Split(strings.TrimSuffix(line, "|"), "|"), "")
		}
		r := row{text: strings.TrimSpace(cells[1]), kids: strings.Fields(cells[2])}
		r.least, r.most = len(r.kids), len(r.kids)
		if n := len(r.kids); n > 0 {
			switch last := r.kids[n-1]; {
			case last == "..":
				r.kids, r.least, r.most = r.kids[:n-1], n-2, 1<<30
			case last == "+":
				r.kids, r.least, r.most = r.kids[:n-1], n-1, 1<<30
			case last[0] == '<':
				most, _ := strconv.Atoi(last[1:])
				r.kids, r.least, r.most = r.kids[:n-1], 0, most
			}
		}
		out[strings.TrimSpace(cells[0])] = r
	}
	return out
}

// choices are the kinds that a part stands for.
func choices(part string) []string {
	var out []string
	for _, p := range strings.Split(part, "|") {
		if whole, ok := parts[p]; ok {
			out = append(out, choices(whole)...)
		} else {
			out = append(out, p)
		}
	}
	return out
}

func isName(s string) bool { return lex.Name(s) && s != "_" }

func among(s, list string) bool { return s != "" && slices.Contains(strings.Fields(list), s) }

const (
	assignSigns = "= += -= *= /= %= &= |= ^= <<= >>="
	unarySigns  = "- ! ^ *"
	binarySigns = "|| && == != < <= > >= + - | ^ * / % & << >>"
)

func textFits(rule, s string) bool {
	digits := strings.Trim(s, "0123456789") == "" && s != ""
	switch rule {
	case "-":
		return s == ""
	case "any":
		return isName(s) || among(s, "true false nil map any func")
	case "name":
		return isName(s)
	case "label":
		return s == "" || isName(s)
	case "assign":
		return among(s, assignSigns)
	case "unary":
		return among(s, unarySigns)
	case "binary":
		return among(s, binarySigns)
	case "step":
		return among(s, "++ --")
	case "int":
		_, err := strconv.ParseInt(s, 10, 64)
		return digits && err == nil && (s == "0" || s[0] != '0')
	case "float":
		whole, part, _ := strings.Cut(s, ".")
		return whole != "" && part != "" && strings.Trim(whole+part, "0123456789") == "" && len(whole+part) <= 15 && (whole == "0" || whole[0] != '0')
	case "text":
		return len(s) <= 65536
	}
	panic(rule)
}

// modelOwn is which row a tree's own node is of.
func modelOwn(n api.Node) string {
	switch n.Kind {
	case api.NPair:
		if n.Text == "" {
			return "NPair:map"
		}
		return "NPair:make"
	case api.NCase:
		if len(n.Kids) > 0 && slices.ContainsFunc(n.Kids[0].Kids, func(k api.Node) bool {
			return k.Kind == api.NPointer || k.Kind == api.NName && among(k.Text, "map func any")
		}) {
			return "NCase:types"
		}
		return "NCase:values"
	}
	return "own"
}

// fits finds the row of a node that stands where a part is asked for; empty: it may not stand there.
func fits(part string, n api.Node) string {
	for _, c := range choices(part) {
		c, said, only := strings.Cut(c, "=")
		kind, _, _ := strings.Cut(c, ":")
		if kindOf(kind) != n.Kind || n.Kind == 0 {
			continue
		}
		if !only || said == n.Text || said == "name" && isName(n.Text) {
			return c
		}
	}
	return ""
}

type standing struct {
	n    api.Node
	deep int
	part string
}

// modelled tells what Right must: it goes over the tree as a list of what stands where.
func modelled(t *testing.T, n api.Node) string {
	rest := []standing{{n, 1, modelOwn(n)}}
	for count := 0; len(rest) > 0; count++ {
		top := rest[0]
		code, row := modelFault(top, count)
		if code != 0 {
			name := top.n.Text
			if len(name) > 40 {
				name = ""
			}
			return toldWrong(t, code, top.n.At, name)
		}
		var kids []standing
		defaults := 0
		for i, kid := range top.n.Kids {
			part := row.kids[min(i, len(row.kids)-1)]
			if kid.Kind == api.NCase && len(kid.Kids) > 0 && kid.Kids[0].Kind == api.NNone {
				defaults++
			}
			if defaults > 1 || top.n.Kind == api.NSlice && i == 3 && top.n.Kids[2].Kind == api.NNone && kid.Kind != api.NNone {
				part = "N!"
			}
			kids = append(kids, standing{kid, top.deep + 1, part})
		}
		rest = append(kids, rest[1:]...)
	}
	return ""
}

func modelFault(s standing, count int) (api.Errno, row) {
	row, known := rows[fits(s.part, s.n)]
	number := s.n.N == 0 || s.n.Kind == api.NMethod && s.n.N > 0 && s.n.N <= 12
	switch {
	case count >= 20000:
		return api.ErrMany, row
	case s.deep > 60:
		return api.ErrDeep, row
	case !known || !textFits(row.text, s.n.Text) || !number || len(s.n.Kids) < row.least:
		return api.ErrKind, row
	case len(s.n.Kids) > row.most && (s.n.Kind == api.NStruct || s.n.Kind == api.NProtocol || s.n.Kind == api.NParams):
		return api.ErrMany, row
	case len(s.n.Kids) > row.most:
		return api.ErrKind, row
	}
	return 0, row
}

// grow makes a right tree by chance, for a part of the table.
func grow(r *rand.Rand, part string, room int) api.Node {
	kinds := choices(part)
	if room <= 0 { // what has no Kids, where there is such a thing
		if small := slices.DeleteFunc(slices.Clone(kinds), func(c string) bool {
			c, _, _ = strings.Cut(c, "=")
			return rows[c].least > 0
		}); len(small) > 0 {
			kinds = small
		}
	}
	kind, said, only := strings.Cut(oneOf(r, kinds...), "=")
	row := rows[kind]
	base, _, _ := strings.Cut(kind, ":")
	n := api.Node{Kind: kindOf(base), Text: growText(r, row.text), At: r.IntN(100)}
	if only && said != "name" {
		n.Text = said
	} else if n.Kind == api.NName {
		n.Text = growText(r, "name")
	}
	if n.Kind == api.NMethod {
		n.N = r.IntN(13)
	}
	count := row.least
	if row.most > row.least && room > 0 {
		count += r.IntN(min(row.most-row.least, 3) + 1)
	}
	for i := range count {
		n.Kids = append(n.Kids, grow(r, row.kids[min(i, len(row.kids)-1)], room-1-r.IntN(2)))
	}
	return mend(n)
}

// mend takes away what the table alone does not rule out.
func mend(n api.Node) api.Node {
	if n.Kind == api.NSlice && n.Kids[2].Kind == api.NNone {
		n.Kids[3] = node(api.NNone, "")
	}
	if n.Kind == api.NSwitch || n.Kind == api.NTypeSwitch {
		defaults := 0
		n.Kids = slices.DeleteFunc(n.Kids, func(k api.Node) bool {
			if k.Kind == api.NCase && k.Kids[0].Kind == api.NNone {
				defaults++
			}
			return k.Kind == api.NCase && k.Kids[0].Kind == api.NNone && defaults > 1
		})
	}
	return n
}

func growText(r *rand.Rand, rule string) string {
	switch rule {
	case "name":
		return oneOf(r, "a", "b", "T", "f")
	case "label":
		return oneOf(r, "", "", "L")
	case "assign":
		return oneOf(r, strings.Fields(assignSigns)...)
	case "unary":
		return oneOf(r, strings.Fields(unarySigns)...)
	case "binary":
		return oneOf(r, strings.Fields(binarySigns)...)
	case "step":
		return oneOf(r, "++", "--")
	case "int":
		return oneOf(r, "0", "1", "12")
	case "float":
		return oneOf(r, "0.0", "1.5", "0.50")
	case "text":
		return oneOf(r, "", "a", "-", "\"\n{(", "nil")
	}
	return ""
}

// roots are all rows, as trees' own nodes.
func roots() []string {
	var out []string
	for name := range rows {
		if name != "NList:values" && name != "NList:types" {
			out = append(out, name)
		}
	}
	slices.Sort(out)
	return out
}

// spoil changes one thing of a tree somewhere.
func spoil(r *rand.Rand, n api.Node) api.Node {
	n.Kids = slices.Clone(n.Kids)
	if len(n.Kids) > 0 && r.IntN(4) > 0 {
		i := r.IntN(len(n.Kids))
		n.Kids[i] = spoil(r, n.Kids[i])
		return n
	}
	switch r.IntN(8) {
	case 0:
		n.Kind = r.IntN(55) - 2
	case 1:
		n.Text = oneOf(r, "", "a", "_", "nil", "true", "false", "map", "any", "func", "in", "1", "1.5", "*", "-", "==", "=", "++", strings.Repeat("n", 41))
	case 2:
		n.N = r.IntN(15) - 1
	case 3:
		n.Kids = append(n.Kids, grow(r, oneOf(r, roots()...), 1))
	case 4:
		if len(n.Kids) > 0 {
			i := r.IntN(len(n.Kids))
			n.Kids = slices.Delete(n.Kids, i, i+1)
		}
	case 5:
		if len(n.Kids) > 0 {
			n.Kids[r.IntN(len(n.Kids))] = grow(r, oneOf(r, roots()...), 1)
		}
	case 6:
		if len(n.Kids) > 1 {
			i := r.IntN(len(n.Kids) - 1)
			n.Kids[i], n.Kids[i+1] = n.Kids[i+1], n.Kids[i]
		}
	default:
		return grow(r, oneOf(r, roots()...), 2)
	}
	return n
}

func TestRightTakesWhatTheTableMakes(t *testing.T) {
	r := dice(1)
	for range 60 {
		for _, root := range roots() {
			n := grow(r, root, r.IntN(6))
			wantRight(t, n, "")
			for _, kid := range n.Kids {
				if n.Kind == api.NCase && n.Kids[0].Kind == api.NList && modelOwn(n) == "NCase:types" && kid.Kind == api.NList {
					continue
				}
				wantRight(t, kid, "")
			}
		}
	}
}

func TestRightIsAsTheModel(t *testing.T) {
	r := dice(2)
	wrong := map[string]int{}
	for range 400 {
		for _, root := range roots() {
			n := spoil(r, grow(r, root, r.IntN(4)))
			if r.IntN(3) == 0 {
				n = spoil(r, n)
			}
			want := modelled(t, n)
			wantRight(t, n, want)
			word, _, _ := strings.Cut(want, "@")
			wrong[word]++
		}
	}
	if wrong[""] < 1000 || wrong["kind"] < 5000 {
		t.Error("the trees are not wrong and right often enough:", wrong)
	}
}

// Every kind is held against every place where a Kid may stand.
func TestEveryKindEverywhere(t *testing.T) {
	r := dice(3)
	for _, root := range roots() {
		for range 3 {
			n := grow(r, root, 3)
			for i := range n.Kids {
				for _, other := range append(roots(), "NName=map", "NName=func", "NName=any", "NName=nil", "NName=true") {
					kids := slices.Clone(n.Kids)
					kids[i] = at(7, grow(r, other, 2))
					changed := api.Node{Kind: n.Kind, Text: n.Text, N: n.N, At: n.At, Kids: kids}
					wantRight(t, changed, modelled(t, changed))
				}
			}
		}
	}
}

// Every kind is held against every text, every number, and numbers of Kids.
func TestEveryText(t *testing.T) {
	texts := strings.Fields("a _ T1 nil true false map any func in type 0 7 01 1.5 00.5 0x 1. .5 1.2.3 = := ++ -- ! ; [ " +
		"-1 é a.b 9223372036854775807 9223372036854775808 1234567890.12345 1234567890.123456 " + assignSigns + " " + unarySigns + " " + binarySigns)
	texts = append(texts, "", " ", "a ", " 1", "1\n", "1;", "1 2", "a b", "1//", "\"a\"", strings.Repeat("n", 40), strings.Repeat("n", 41),
		strings.Repeat("9", 20), "0"+strings.Repeat("9", 18), "1234567890.12345 ", "0.50000000000000", "0.500000000000000", "\xff", strings.Repeat("x", 65536), strings.Repeat("x", 65537))
	r := dice(4)
	for _, root := range roots() {
		n := grow(r, root, 2)
		for _, text := range texts {
			n.Text = text
			wantRight(t, n, modelled(t, n))
			held := listed(n)
			wantRight(t, held, modelled(t, held))
		}
	}
}

func TestEveryNumber(t *testing.T) {
	r := dice(5)
	for _, root := range roots() {
		n := grow(r, root, 2)
		for _, number := range []int{-1 << 63, -13, -1, 0, 1, 11, 12, 13, 1<<63 - 1} {
			n.N = number
			wantRight(t, n, modelled(t, n))
		}
	}
}

func TestEveryNumberOfKids(t *testing.T) {
	r := dice(6)
	for _, root := range roots() {
		whole := grow(r, root, 3)
		row := rows[root]
		if len(row.kids) == 0 {
			row.kids = []string{"e"}
		}
		for count := range 64 {
			n := whole
			n.Kids = nil
			for i := range count {
				n.Kids = append(n.Kids, grow(r, row.kids[min(i, len(row.kids)-1)], 1))
			}
			wantRight(t, n, modelled(t, n))
		}
	}
}

func FuzzRight(f *testing.F) {
	f.Add(uint64(1), 3, 2)
	f.Fuzz(func(t *testing.T, seed uint64, room, times int) {
		r := dice(seed)
		n := grow(r, oneOf(r, roots()...), max(0, min(room, 7)))
		wantRight(t, n, "")
		wantPrint(t, n, drawn(n))
		for range max(0, min(times, 6)) {
			n = spoil(r, n)
		}
		wantRight(t, n, modelled(t, n))
		if !tree.Same(n, n) || tree.Count(n) < 1 {
			t.Error("not the same as itself")
		}
	})
}
