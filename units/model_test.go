package units_test

import (
	"regexp"
	"slices"
	"strings"

	"guise/api"
	"guise/lex"
	"guise/parse"
	"guise/tree"
	"guise/units"
)

// The chapter a second time, in another way: heads are found by patterns, the order is the first of all rows that may be, and a unit's
// nodes stand in a list, with what they stand in; a variable is seen in a span of nodes' numbers.

var (
	headPattern  = regexp.MustCompile(`\A(?:[ \t]*(?://[^\n]*|import(?:[ \t][^\n]*)?)?(?:\n|\z))*`)
	wordsPattern = regexp.MustCompile(`(?m)^[ \t]*import([ \t].*)?$`)
	wordPattern  = regexp.MustCompile(`[^ \t]+`)
	unitPattern  = regexp.MustCompile(`\A(?:[A-Za-z]|_[A-Za-z0-9])[A-Za-z0-9]*(?:_[A-Za-z0-9]+)*_?\z`)
)

// bodyOf is a source without its head.
func bodyOf(source string) string {
	head := headPattern.FindString(source)
	lines := strings.Split(head, "\n")
	for i, line := range lines {
		lines[i] = strings.Repeat(" ", len(line))
	}
	return strings.Join(lines, "\n") + source[len(head):]
}

// asked is a word of an import, and its place; of an import without words an empty one at the line's end.
type asked struct {
	text string
	at   int
}

func importsOf(source string) []asked {
	var out []asked
	head := headPattern.FindString(source)
	for _, line := range wordsPattern.FindAllStringSubmatchIndex(head, -1) {
		from, to := line[2], line[3]
		if from < 0 || len(wordPattern.FindString(head[from:to])) == 0 {
			out = append(out, asked{"", line[1]})
			continue
		}
		for _, word := range wordPattern.FindAllStringIndex(head[from:to], -1) {
			out = append(out, asked{head[from+word[0] : from+word[1]], from + word[0]})
		}
	}
	return out
}

func mayBeUnit(name string) bool {
	return unitPattern.MatchString(name) && len(name) <= 40 && !slices.Contains(lex.Words(), name)
}

func numberOf(l []units.Unit, name string) int {
	return slices.IndexFunc(l, func(u units.Unit) bool { return u.Name == name })
}

// orderWrong: U1, up to the fourth.
func orderWrong(l []units.Unit) string {
	if len(l) > 16 {
		return wrongTold(api.ErrMany, 0, "")
	}
	for i, u := range l {
		if !mayBeUnit(u.Name) || numberOf(l, u.Name) < i {
			return wrongTold(api.ErrUnit, 0, u.Name)
		}
		if len(u.Source) > 60000 {
			return wrongTold(api.ErrLong, 0, u.Name)
		}
	}
	for i, u := range l {
		var ahead []string
		for _, w := range importsOf(u.Source) {
			code := api.OK
			switch number := numberOf(l, w.text); {
			case !mayBeUnit(w.text):
				code = api.ErrUnit
			case slices.Contains(ahead, w.text):
				code = api.ErrTwice
			case number < 0 || number == i:
				code = api.ErrImport
			}
			if code != api.OK {
				return wrongTold(code, w.at, u.Name+"."+w.text)
			}
			ahead = append(ahead, w.text)
		}
	}
	return ""
}

// leading tells of each two units whether the first one leads to the second one.
func leading(l []units.Unit) [][]bool {
	leads := make([][]bool, len(l))
	for i, u := range l {
		leads[i] = make([]bool, len(l))
		for _, w := range importsOf(u.Source) {
			leads[i][numberOf(l, w.text)] = true
		}
	}
	for over := range l {
		for i := range l {
			for j := range l {
				leads[i][j] = leads[i][j] || leads[i][over] && leads[over][j]
			}
		}
	}
	return leads
}

// modelOrder is U1: the first row, of all that there are, in which each unit is behind those to which it leads.
func modelOrder(l []units.Unit) ([]int, string) {
	if wrong := orderWrong(l); wrong != "" {
		return nil, wrong
	}
	leads := leading(l)
	for i, u := range l {
		if leads[i][i] {
			return nil, wrongTold(api.ErrImport, 0, u.Name)
		}
	}
	var row []int
	var try func() bool
	try = func() bool {
		if len(row) == len(l) {
			return fitsRow(row, leads)
		}
		for i := range l {
			if !slices.Contains(row, i) {
				row = append(row, i)
				if try() {
					return true
				}
				row = row[:len(row)-1]
			}
		}
		return false
	}
	try()
	return row, ""
}

func fitsRow(row []int, leads [][]bool) bool {
	for at, i := range row {
		for _, j := range row[at:] {
			if leads[i][j] {
				return false
			}
		}
	}
	return true
}

type spot struct {
	*api.Node
	number, end int // end: the first number behind it
	in          *spot
	index       int // which Kid it is
	kids        []*spot
}

// span is where a variable is seen.
type span struct {
	name     string
	from, to int
}

type modelUnit struct {
	name     string
	first    bool
	imports  []*modelUnit
	spots    []*spot
	spans    []span
	declared []string
	embedded []string
}

func (u *modelUnit) lay(n *api.Node, in *spot, index int) *spot {
	s := &spot{Node: n, number: len(u.spots), in: in, index: index}
	u.spots = append(u.spots, s)
	for i := range n.Kids {
		s.kids = append(s.kids, u.lay(&n.Kids[i], s, i))
	}
	s.end = len(u.spots)
	return s
}

// among tells whether it is one of the first Kids of a node of some kind.
func (s *spot) among(first, kind int) bool {
	return s.in != nil && s.in.Kind == kind && s.index < first
}

func (s *spot) declares() bool {
	return s.in != nil && s.in.Kind == api.NProgram && s.Kind != api.NMethodDecl
}

// show takes down where the variables are seen that a node declares.
func (u *modelUnit) show(s *spot) {
	in := s.in
	body := in.kids[len(in.kids)-1]
	switch {
	case s.Kind == api.NDefine:
		u.spans = append(u.spans, span{s.Text, s.end, in.end})
	case s.among(2, api.NDefineTwo):
		u.spans = append(u.spans, span{s.Text, in.end, in.in.end})
	case s.among(2, api.NRange), s.Kind == api.NReceiver:
		u.spans = append(u.spans, span{s.Text, body.number, body.end})
	case in.Kind == api.NParams:
		u.spans = append(u.spans, span{s.Text, in.end, in.in.end})
	case s.Kind == api.NCase && in.Kind == api.NTypeSwitch:
		u.spans = append(u.spans, span{in.kids[0].Text, s.kids[1].number, s.kids[1].end})
	}
}

func (u *modelUnit) seen(s *spot) bool {
	return slices.ContainsFunc(u.spans, func(v span) bool { return v.name == s.Text && v.from <= s.number && s.number < v.to })
}

func (u *modelUnit) joined(name string) string {
	if u.first {
		return name
	}
	return u.name + "__" + name
}

// speaksOf is the unit of which a node speaks; nil: of none.
func (u *modelUnit) speaksOf(s *spot) *modelUnit {
	if s.Kind != api.NSelect || s.kids[0].Kind != api.NName || u.seen(s.kids[0]) {
		return nil
	}
	if i := slices.IndexFunc(u.imports, func(o *modelUnit) bool { return o.name == s.kids[0].Text }); i >= 0 {
		return u.imports[i]
	}
	return nil
}

// wrongAt: U2's second point, at a node.
func (u *modelUnit) wrongAt(s *spot) api.Errno {
	switch {
	case s.declares() && strings.Contains(s.Text, "__"):
		return api.ErrUnit
	case s.declares() && slices.ContainsFunc(u.imports, func(o *modelUnit) bool { return o.name == s.Text }):
		return api.ErrTwice
	case s.declares() && len(u.joined(s.Text)) > 40:
		return api.ErrLong
	case s.Kind == api.NField, s.Kind == api.NMethod, s.Kind == api.NMethodDecl:
		if slices.Contains(u.embedded, s.Text) && !u.first {
			return api.ErrUnit
		}
	}
	if o := u.speaksOf(s); o != nil && !slices.Contains(o.declared, s.Text) {
		return api.ErrUnknown
	}
	return api.OK
}

// isType: the NName is a type where a type is asked for.
func isType(s *spot) bool {
	in := s.in
	if in.Kind == api.NPointer {
		in, s = in.in, in
	}
	switch in.Kind {
	case api.NReceiver, api.NNilOf:
		return true
	case api.NAssert:
		return s.index == 1
	case api.NList:
		return in.in.Kind == api.NCase && in.in.in.Kind == api.NTypeSwitch
	}
	return false
}

// isUse: the NName is an expression, a place, or one of the names of an NAssignTwo.
func isUse(s *spot) bool {
	return !isType(s) && s.in.Kind != api.NParams && s.in.Kind != api.NType && !s.among(2, api.NDefineTwo) && !s.among(2, api.NRange) && !s.among(1, api.NTypeSwitch)
}

// textOf is a node's Text in the whole program.
func (u *modelUnit) textOf(s *spot) string {
	own, part := slices.Contains(u.declared, s.Text), slices.Contains(u.embedded, s.Text)
	switch s.Kind {
	case api.NEmbed, api.NEmbedPointer, api.NMake:
		part = own
	case api.NName:
		part = own && (isType(s) || isUse(s) && !u.seen(s))
	case api.NSelect:
	case api.NPair:
		part = part && s.in.Kind == api.NMake
	default:
		part = s.declares()
	}
	if part {
		return u.joined(s.Text)
	}
	return s.Text
}

func (u *modelUnit) build(s *spot) api.Node {
	if o := u.speaksOf(s); o != nil {
		return api.Node{Kind: api.NName, Text: o.joined(s.Text), At: s.At}
	}
	n := api.Node{Kind: s.Kind, Text: u.textOf(s), N: s.N, At: s.At}
	for _, kid := range s.kids {
		n.Kids = append(n.Kids, u.build(kid))
	}
	return n
}

// take reads the tree of a unit's body.
func (u *modelUnit) take(program *api.Node) {
	u.lay(program, nil, 0)
	for _, s := range u.spots {
		if s.declares() {
			u.declared = append(u.declared, s.Text)
		}
		if s.in != nil {
			u.show(s)
		}
	}
	for _, s := range u.spots {
		embeds := s.Kind == api.NEmbed || s.Kind == api.NEmbedPointer
		if embeds && s.in.Kind == api.NStruct && slices.Contains(u.declared, s.Text) {
			u.embedded = append(u.embedded, s.Text)
		}
	}
}

// outcome is what the model says of Join: the tree, or the error, and at which node of which unit it was found, if it was at one.
type outcome struct {
	tree  api.Node
	wrong string
	unit  int
	node  int
	units []*modelUnit
}

func (o outcome) told() string {
	if o.wrong != "" {
		return o.wrong
	}
	return drawn(o.tree)
}

// modelJoin is U2.
func modelJoin(l []units.Unit) outcome {
	out := outcome{unit: -1, tree: api.Node{Kind: api.NProgram}}
	if len(l) == 0 {
		out.wrong = wrongTold(api.ErrUnit, 0, "")
		return out
	}
	row, wrong := modelOrder(l)
	if wrong != "" {
		out.wrong = wrong
		return out
	}
	read := make([]*modelUnit, len(l))
	for _, i := range row {
		u := &modelUnit{name: l[i].Name, first: i == 0}
		read[i], out.units = u, append(out.units, u)
		for _, w := range importsOf(l[i].Source) {
			u.imports = append(u.imports, read[numberOf(l, w.text)])
		}
		program, err := parse.Program(bodyOf(l[i].Source))
		if w, ok := err.(*api.Wrong); ok {
			out.wrong = wrongTold(w.Code, w.At, u.name+"."+w.Name)
			return out
		}
		u.take(&program)
		for _, s := range u.spots {
			if code := u.wrongAt(s); code != api.OK {
				out.wrong, out.unit, out.node = wrongTold(code, s.At, u.name+"."+s.Text), i, s.number
				return out
			}
		}
		out.tree.Kids = append(out.tree.Kids, u.build(u.spots[0]).Kids...)
	}
	if w, ok := tree.Right(out.tree).(*api.Wrong); ok {
		out.wrong = wrongTold(w.Code, w.At, w.Name)
	}
	return out
}
