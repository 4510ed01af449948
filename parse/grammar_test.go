package parse_test

import (
	"strconv"
	"strings"
	"testing"

	"guise/api"
	"guise/lex"
)

// grammar is the chapter's, with what it says in words written out as rules. A rule with ~ in it stands there twice: as it is
// without the ~, and for heads, with an H in its place. `nameX`, `selectX` .. are what becomes an NName, an NSelect .., in
// brackets or not; notNil is each post but a `nil`, which with a `(` behind it is the form with a type.
const grammar = `
program     := ends { decl END ends } [ decl ]
statements  := stmts
expression  := expr ends
ends        := { END }
decl        := 'type' name '=' ( name | 'map' | 'func' )
decl        := 'type' name 'struct' '{' ends { field END ends } [ field ] '}'
decl        := 'protocol' name '{' ends { wish END ends } [ wish ] '}'
decl        := 'func' name params block
decl        := 'func' '(' name [ '*' ] name ')' name params block
decl        := 'var' name '=' expr
field       := name | '.' [ '*' ] name
wish        := name [ '(' int ')' ]
params      := '(' [ name { ',' name } [ ',' ] ] ')'
block       := '{' stmts '}'
stmts       := ends { stmt END ends } [ stmt ]

stmt        := block | name ':=' expr | name ',' name ( ':=' | '=' ) ( indexX | assertX ) | callX
stmt        := place ( '=' | '+=' | '-=' | '*=' | '/=' | '%=' | '&=' | '|=' | '^=' | '<<=' | '>>=' ) expr
stmt        := place ( '++' | '--' )
stmt        := if | [ name ':' ] for | [ name ':' ] switch | 'return' [ expr ] | 'defer' callX
stmt        := 'break' [ name ] | 'continue' [ name ] | 'fallthrough'
if          := 'if' exprH block [ 'else' ( block | if ) ]
for         := 'for' block | 'for' exprH block | 'for' item [ ',' item ] 'in' exprH block
item        := name | '_'
switch      := 'switch' [ exprH ] '{' ends { ( 'case' exprs | 'default' ) ':' stmts } '}'
switch      := 'switch' [ name ':=' ] postH '.' '(' 'type' ')' '{' ends { ( 'case' cases | 'default' ) ':' stmts } '}'
cases       := case { ',' case } [ ',' ]
case        := type | 'nil'
type        := [ '*' ] name | 'map' | 'func' | 'any'
exprs       := expr { ',' expr } [ ',' ]

expr~       := and~ { '||' and~ }
and~        := cmp~ { '&&' cmp~ }
cmp~        := sum~ { ( '==' | '!=' | '<' | '<=' | '>' | '>=' ) sum~ }
sum~        := prod~ { ( '+' | '-' | '|' | '^' ) prod~ }
prod~       := unary~ { ( '*' | '/' | '%' | '&' | '<<' | '>>' ) unary~ }
unary~      := ( '-' | '!' | '^' | '*' ) unary~ | post~
unary       := '&' make
post~       := 'nil' | notNil~
notNil~     := prime~ | post~ '.' name | post~ '[' expr ']' | post~ slice | post~ '.' '(' type ')'
notNil~     := notNil~ '(' [ exprs ] ')' | 'map' '(' [ exprs ] ')'
slice       := '[' [ expr ] ':' [ expr ] ']' | '[' [ expr ] ':' expr ':' expr ']'
prime~      := int | float | text | 'true' | 'false' | name | '(' expr ')' | '[' [ exprs ] ']'
prime~      := 'map' '{' [ expr ':' expr { ',' expr ':' expr } [ ',' ] ] '}' | 'func' params block
prime~      := 'nil' '(' ( [ '*' ] name | 'map' | 'func' ) ')'
prime       := make
make        := name '{' [ name ':' expr { ',' name ':' expr } [ ',' ] ] '}'

place       := nameX | selectX | indexX | derefX
nameX       := name | '(' nameX ')'
selectX     := post '.' name | '(' selectX ')'
indexX      := post '[' expr ']' | '(' indexX ')'
assertX     := post '.' '(' type ')' | '(' assertX ')'
callX       := notNil '(' [ exprs ] ')' | 'map' '(' [ exprs ] ')' | '(' callX ')'
derefX      := '*' unary | '(' derefX ')'
`

// rules are the grammar without its shorthand: symbols by their numbers, a symbol's ways as lists of symbols.
type rules struct {
	numbers  map[string]int
	names    []string
	ways     [][][]int // by symbol; of a token none
	nullable []bool
}

func (g *rules) symbol(name string) int {
	if n, ok := g.numbers[name]; ok {
		return n
	}
	n := len(g.names)
	g.numbers[name] = n
	g.names = append(g.names, name)
	g.ways = append(g.ways, nil)
	return n
}

var language = readGrammar()

func readGrammar() *rules {
	g := &rules{numbers: map[string]int{}}
	for _, line := range strings.Split(strings.TrimSpace(grammar), "\n") {
		for _, head := range []string{"", "H"} {
			if strings.TrimSpace(line) == "" || head != "" && !strings.Contains(line, "~") {
				continue
			}
			left, right, _ := strings.Cut(strings.ReplaceAll(line, "~", head), ":=")
			words := strings.Fields(right)
			s := g.symbol(strings.TrimSpace(left))
			g.ways[s] = append(g.ways[s], g.choice(&words)...)
		}
	}
	g.findNullable()
	return g
}

// choice reads ways up to a closing bracket, or the end.
func (g *rules) choice(words *[]string) [][]int {
	ways := [][]int{nil}
	for len(*words) > 0 {
		word := (*words)[0]
		if word == "]" || word == "}" || word == ")" {
			return ways
		}
		*words = (*words)[1:]
		last := len(ways) - 1
		switch word {
		case "|":
			ways = append(ways, nil)
		case "[", "{", "(":
			inner := g.choice(words)
			*words = (*words)[1:]
			ways[last] = append(ways[last], g.group(word, inner))
		default:
			ways[last] = append(ways[last], g.symbol(word))
		}
	}
	return ways
}

func (g *rules) group(bracket string, inner [][]int) int {
	s := g.symbol(bracket + strconv.Itoa(len(g.names)))
	switch bracket {
	case "[":
		inner = append(inner, nil)
	case "{":
		for i, way := range inner {
			inner[i] = append([]int{s}, way...)
		}
		inner = append(inner, nil)
	}
	g.ways[s] = inner
	return s
}

func (g *rules) findNullable() {
	g.nullable = make([]bool, len(g.names))
	for changed := true; changed; {
		changed = false
		for s, ways := range g.ways {
			for _, way := range ways {
				all := true
				for _, part := range way {
					all = all && g.nullable[part]
				}
				if all && !g.nullable[s] {
					g.nullable[s], changed = true, true
				}
			}
		}
	}
}

// tokenSymbol is what the grammar calls a token.
func (g *rules) tokenSymbol(k api.Token) int {
	name := "'" + k.Text + "'"
	switch {
	case k.Kind == api.TokEnd:
		name = "END"
	case k.Kind == api.TokName && k.Text != "_":
		name = "name"
	case k.Kind == api.TokInt:
		name = "int"
	case k.Kind == api.TokFloat:
		name = "float"
	case k.Kind == api.TokText:
		name = "text"
	}
	if n, ok := g.numbers[name]; ok {
		return n
	}
	return -1
}

// step is a way that is gone up to a dot, begun at a set.
type step struct{ symbol, way, dot, from int }

// chart is what the tokens read so far may be the beginning of, after each of them: all ways at one time, so that the first
// token with which none goes on is found by the grammar alone.
type chart struct {
	g     *rules
	start int
	sets  []set
}

type set struct {
	steps []step
	seen  map[step]bool
	wants map[int][]step // by symbol: the steps that have it behind their dot
}

func newChart(g *rules, start string) *chart {
	c := &chart{g: g, start: g.numbers[start]}
	c.sets = append(c.sets, set{seen: map[step]bool{}, wants: map[int][]step{}})
	c.predict(c.start)
	c.close()
	return c
}

func (c *chart) add(s step) {
	last := &c.sets[len(c.sets)-1]
	if !last.seen[s] {
		last.seen[s] = true
		last.steps = append(last.steps, s)
	}
}

func (c *chart) predict(symbol int) {
	for way := range c.g.ways[symbol] {
		c.add(step{symbol, way, 0, len(c.sets) - 1})
	}
}

// close follows all that begins or ends at the last set.
func (c *chart) close() {
	at := len(c.sets) - 1
	for i := 0; i < len(c.sets[at].steps); i++ {
		s := c.sets[at].steps[i]
		parts := c.g.ways[s.symbol][s.way]
		if s.dot == len(parts) {
			for _, waiting := range c.sets[s.from].wants[s.symbol] {
				waiting.dot++
				c.add(waiting)
			}
			continue
		}
		next := parts[s.dot]
		c.sets[at].wants[next] = append(c.sets[at].wants[next], s)
		c.predict(next)
		if c.g.nullable[next] {
			s.dot++
			c.add(s)
		}
	}
}

// read goes on with a token, if that can be; else nothing changes.
func (c *chart) read(k api.Token) bool {
	symbol := c.g.tokenSymbol(k)
	waiting := c.sets[len(c.sets)-1].wants[symbol]
	if symbol < 0 || len(waiting) == 0 {
		return false
	}
	c.sets = append(c.sets, set{seen: map[step]bool{}, wants: map[int][]step{}})
	for _, s := range waiting {
		s.dot++
		c.add(s)
	}
	c.close()
	return true
}

// back forgets the last token.
func (c *chart) back() { c.sets = c.sets[:len(c.sets)-1] }

// whole tells whether the tokens so far are the form.
func (c *chart) whole() bool {
	for s := range c.sets[len(c.sets)-1].seen {
		if s.symbol == c.start && s.from == 0 && s.dot == len(c.g.ways[s.symbol][s.way]) {
			return true
		}
	}
	return false
}

var starts = map[string]string{"Program": "program", "Statements": "statements", "Expr": "expression"}

// modelled is the ErrToken that a text must have, or nothing.
func (f form) modelled(t *testing.T, s string) string {
	t.Helper()
	tokens, err := lex.Scan(s)
	if err != nil {
		t.Fatalf("Scan(%q): %v", s, err)
	}
	c := newChart(language, starts[f.name])
	for _, k := range tokens {
		if !c.read(k) {
			return wrongAt(k.At, k.Text)
		}
	}
	if !c.whole() {
		return wrongAt(len(s), "")
	}
	return ""
}

// wantAsModel holds the ErrToken of a text, or that there is none, against the grammar.
func (f form) wantAsModel(t *testing.T, s string) {
	t.Helper()
	got, want := f.told(t, s), f.modelled(t, s)
	if !strings.HasPrefix(got, "!token") {
		got = ""
	}
	if got != want {
		t.Errorf("%s(%q): %q, by the grammar %q", f.name, s, got, want)
	}
}

func TestGrammarHasItsSymbols(t *testing.T) {
	for s, ways := range language.ways {
		name := language.names[s]
		token := strings.HasPrefix(name, "'") || strings.Contains(" END name int float text ", " "+name+" ")
		if token == (len(ways) > 0) {
			t.Errorf("%s has %d ways", name, len(ways))
		}
	}
}

func TestFormsAreAsTheGrammar(t *testing.T) {
	for _, c := range formTexts {
		for _, f := range forms {
			f.wantAsModel(t, c.s)
		}
	}
}
