package code_test

import (
	"fmt"
	"math/big"
	"regexp"
	"strconv"
	"strings"

	"guise/api"
	"guise/code"
)

// chapter is the chapter's table, a row an operation, in the order of the constants: A, B, Text, what is taken -> what is laid
// (behind a `;` what is laid where A leads).
const chapter = `
step         |             |      |            | ->
tick         |             |      |            | ->
int          |             |      | int        | -> v
float        |             |      | float      | -> v
text         |             |      | text       | -> v
bool         | flag        |      |            | -> v
nil          |             |      |            | -> v
nilof        | flag        |      | but any    | -> v
load         | slot        |      |            | -> v
global       | global      |      |            | -> v
taken        | taken       |      |            | -> v
fresh        | slot        |      |            | v ->
store        | slot        |      |            | v ->
storeglobal  | global      |      |            | v ->
storetaken   | taken       |      |            | v ->
pop          |             |      |            | v ->
dup          |             |      |            | v -> v v
unary        |             |      | unary      | v -> v
binary       |             |      | binary     | v v -> v
truth        |             |      | truth      | v -> v
convert      | kind        |      | but any    | v -> v
select       | flag        |      | name       | v -> v
expression   | flag        |      | two names  | -> v
index        |             |      |            | v v -> v
indextwo     |             |      |            | v v -> v v
slice        | two or three | left |           | v bounds -> v
list         | many        |      |            | A*v -> v
map          | many        |      |            | A*v A*v -> v
struct       | fields      |      | names      | A*v -> v
object       |             |      |            | v -> v
literal      | function    |      |            | -> v
assert       | flag        |      | type       | v -> v
holds        | flag or nil |      | type       | v -> v v
jump         | instruction |      |            | -> ;
branch       | instruction |      |            | v -> ;
and          | instruction |      |            | v -> ; v
or           | instruction |      |            | v -> ; v
placeslot    | slot        |      |            | -> p
placeglobal  | global      |      |            | -> p
placetaken   | taken       |      |            | -> p
placeof      |             |      |            | v -> p
placeindex   |             |      |            | v v -> p
placefield   |             |      | name       | x -> p
fetch        |             |      |            | p -> p v
put          |             |      |            | p v ->
call         | many        |      |            | v A*v -> v
built        | many        |      | built-in   | A*v -> v
defer        | many        |      |            | v A*v ->
deferbuilt   | many        |      | built-in   | A*v ->
return       |             |      |            | v ->
turn         |             |      |            | v -> t
next         | instruction |      |            | t -> t v v ;
drop         | many        |      |            | A*t ->
`

// cells are the rows' cells, by the operations' numbers.
var cells = func() [][]string {
	out := [][]string{nil}
	for _, line := range strings.Split(strings.TrimSpace(chapter), "\n") {
		row := strings.Split(line, "|")
		for i := range row {
			row[i] = strings.TrimSpace(row[i])
		}
		out = append(out, row)
	}
	return out
}()

// The model of what is right, by patterns, and by stacks that are written out.

var (
	modelInt   = regexp.MustCompile(`^(0|-?[1-9][0-9]*)$`)
	modelFloat = regexp.MustCompile(`^[0-9a-f]{16}$`)
	modelNaN   = regexp.MustCompile(`^[7f]ff(.*[1-9a-f].*)$`)
	modelName  = regexp.MustCompile(`^[A-Za-z_][A-Za-z0-9_]{0,39}$`)
)

func isName(s string) bool { return modelName.MatchString(s) && !among(s, words) }

func among(s, list string) bool {
	for _, w := range strings.Fields(list) {
		if w == s {
			return true
		}
	}
	return false
}

func areNames(s string) (int, bool) {
	names := strings.Split(s, " ")
	for _, name := range names {
		if !isName(name) {
			return 0, false
		}
	}
	return len(names), true
}

func modelRight(p code.Program) string {
	for _, ask := range []func(code.Program) string{modelMany, modelGlobals, modelFunctions, modelInstructions, modelStacks} {
		if s := ask(p); s != "" {
			return s
		}
	}
	return "ok"
}

func modelMany(p code.Program) string {
	var all []code.Inst
	for _, f := range p.Funcs {
		all = append(all, f.Code...)
	}
	if len(p.Funcs) == 0 || len(p.Funcs) > 20000 || len(p.Globals) > 20000 || len(all) > 60000 {
		return wrong(22, 0, "")
	}
	for k, f := range p.Funcs {
		if f.Slots > 20000 || len(f.Taken) > 20000 {
			return wrong(22, k, "")
		}
	}
	return ""
}

func modelGlobals(p code.Program) string {
	for i, name := range p.Globals {
		if !isName(name) {
			return wrong(130, 0, "")
		}
		for _, other := range p.Globals[:i] {
			if other == name {
				return wrong(130, 0, "")
			}
		}
	}
	return ""
}

func modelFunctions(p code.Program) string {
	for k, f := range p.Funcs {
		if !modelFunction(p, k, f) || f.Params < 0 || f.Params > 13 || f.Params > f.Slots {
			return wrong(130, k, "")
		}
	}
	return ""
}

func modelFunction(p code.Program, k int, f code.Func) bool {
	if k == 0 {
		return f.Name == "" && f.Params == 0 && len(f.Taken) == 0 && f.Around == -1
	}
	if f.Around == -1 {
		for _, ahead := range p.Funcs[1:k] {
			if ahead.Around == -1 && ahead.Name == f.Name {
				return false
			}
		}
		parts := strings.Split(f.Name, ".")
		return len(f.Taken) == 0 && len(parts) <= 2 && isName(parts[0]) && isName(parts[len(parts)-1])
	}
	if f.Name != "func" || f.Around < 0 || f.Around >= k {
		return false
	}
	around := p.Funcs[f.Around]
	for _, n := range f.Taken {
		if n >= 0 && n >= around.Slots || n < 0 && -(n+1) >= len(around.Taken) {
			return false
		}
	}
	return true
}

func modelInstructions(p code.Program) string {
	for k, f := range p.Funcs {
		for i, in := range f.Code {
			if in.Op < 1 || int(in.Op) >= len(cells) || !modelA(p, k, i, in) || !modelB(in) || !modelText(in) || in.At < 0 || in.At > 60000 {
				return wrong(130, k, strconv.Itoa(i))
			}
			if i == len(f.Code)-1 && in.Op != code.OpReturn && in.Op != code.OpJump {
				return wrong(130, k, strconv.Itoa(i))
			}
		}
		if len(f.Code) == 0 {
			return wrong(130, k, "")
		}
	}
	return ""
}

func modelA(p code.Program, k, i int, in code.Inst) bool {
	f := p.Funcs[k]
	between := func(least, greatest int) bool { return least <= in.A && in.A <= greatest }
	switch cells[in.Op][1] {
	case "flag":
		return between(0, 1)
	case "flag or nil":
		return between(0, 2)
	case "slot":
		return between(0, f.Slots-1)
	case "global":
		return between(0, len(p.Globals)-1)
	case "taken":
		return between(0, len(f.Taken)-1)
	case "kind":
		return between(1, 7)
	case "two or three":
		return between(2, 3)
	case "many":
		return between(0, 20000)
	case "fields":
		return between(0, 30)
	case "function":
		return between(1, len(p.Funcs)-1) && (p.Funcs[in.A].Around == -1 || p.Funcs[in.A].Around == k)
	case "instruction":
		return between(0, len(f.Code)-1) && (in.A > i || among(cells[f.Code[in.A].Op][0], "step tick"))
	}
	return in.A == 0
}

func modelB(in code.Inst) bool {
	if cells[in.Op][2] == "left" {
		return in.B == 0 || in.B == 1 || in.A == 2 && (in.B == 2 || in.B == 3)
	}
	return in.B == 0
}

func modelText(in code.Inst) bool {
	s := in.Text
	switch cells[in.Op][3] {
	case "int":
		n, is := new(big.Int).SetString(s, 10)
		return modelInt.MatchString(s) && is && n.IsInt64()
	case "float":
		return modelFloat.MatchString(s) && (s == "7ff8000000000001" || !modelNaN.MatchString(s))
	case "text":
		return len(s) <= 65536
	case "type":
		return in.A == 2 && s == "" || in.A == 1 && isName(s) || in.A == 0 && (isName(s) || among(s, "any map func"))
	case "but any":
		return isName(s) || among(s, "map func") && (in.Op == code.OpConvert || in.A == 0)
	case "name":
		return isName(s)
	case "two names":
		n, are := areNames(s)
		return are && n == 2
	case "names":
		n, are := areNames(s)
		count := map[string]int{}
		for i, name := range strings.Split(s, " ") {
			if i > 0 {
				count[name]++
			}
		}
		return are && n == in.A+1 && len(count) == in.A
	case "unary":
		return among(s, "- ! ^ * ++ --")
	case "binary":
		return among(s, "+ - * / % & | ^ << >> == != < <= > >=")
	case "truth":
		return among(s, "&& ||")
	case "built-in":
		return among(s, "append cap copy delete len make panic print recover show typeof")
	}
	return s == ""
}

// modelEffect writes out what an instruction takes, and lays.
func modelEffect(in code.Inst) (takes, on, there string) {
	left, right, _ := strings.Cut(cells[in.Op][4], "->")
	on, there, _ = strings.Cut(right, ";")
	write := func(things string) string {
		out := ""
		for _, thing := range strings.Fields(things) {
			switch {
			case thing == "bounds":
				out += strings.Repeat("v", in.A-in.B%2-in.B/2)
			case strings.HasPrefix(thing, "A*"):
				out += strings.Repeat(thing[2:], in.A)
			default:
				out += thing
			}
		}
		return out
	}
	return write(left), write(on), write(there)
}

func modelStacks(p code.Program) string {
	for k, f := range p.Funcs {
		if i := modelStack(f.Code); i >= 0 {
			return wrong(130, k, strconv.Itoa(i))
		}
	}
	return ""
}

// modelStack is the first instruction that does not fit, -1 if all do.
func modelStack(l []code.Inst) int {
	stacks, looked := map[int]string{0: ""}, map[int]bool{}
	least := func() int {
		for i := range l {
			if _, come := stacks[i]; come && !looked[i] {
				return i
			}
		}
		return -1
	}
	hand := func(i int, stack string) bool {
		if has, come := stacks[i]; come {
			return has == stack
		}
		stacks[i] = stack
		return true
	}
	for i := least(); i >= 0; i = least() {
		looked[i] = true
		takes, on, there := modelEffect(l[i])
		if takes == "x" && stacks[i] != "" && stacks[i][len(stacks[i])-1] != 't' {
			takes = stacks[i][len(stacks[i])-1:]
		}
		rest, found := strings.CutSuffix(stacks[i], takes)
		if !found || len(rest+on) > 30000 {
			return i
		}
		if !among(cells[l[i].Op][0], "return jump") && !hand(i+1, rest+on) {
			return i + 1
		}
		if cells[l[i].Op][1] == "instruction" && !hand(l[i].A, rest+there) {
			return l[i].A
		}
	}
	return -1
}

// The model of bytes: numbers of any size, read by digits.

type gaveUp struct{ at int }

type modelBytes struct {
	b  []byte
	at int
}

func (m *modelBytes) number() int {
	begin := m.at
	sum := new(big.Int)
	for i := 0; ; i++ {
		if m.at >= len(m.b) {
			panic(gaveUp{len(m.b)})
		}
		c := m.b[m.at]
		if i == 9 && c > 1 {
			panic(gaveUp{begin})
		}
		sum.Add(sum, new(big.Int).Lsh(big.NewInt(int64(c%128)), uint(7*i)))
		m.at++
		if c < 128 {
			if c == 0 && i > 0 {
				panic(gaveUp{begin})
			}
			break
		}
	}
	half, odd := new(big.Int).DivMod(sum, big.NewInt(2), new(big.Int))
	if odd.Sign() > 0 {
		half.Not(half)
	}
	return int(half.Int64())
}

func (m *modelBytes) count() int {
	begin := m.at
	n := m.number()
	if n < 0 || n > len(m.b)-m.at {
		panic(gaveUp{begin})
	}
	return n
}

func (m *modelBytes) text() string {
	n := m.count()
	m.at += n
	return string(m.b[m.at-n : m.at])
}

// modelDecode writes what Decode must answer.
func modelDecode(b string) (out string) {
	defer func() {
		if g, is := recover().(gaveUp); is {
			out = wrong(130, g.at, "")
		}
	}()
	for i := range 4 {
		if i >= len(b) || b[i] != "GC01"[i] {
			return wrong(130, i, "")
		}
	}
	m := &modelBytes{b: []byte(b), at: 4}
	var p code.Program
	for range m.count() {
		p.Globals = append(p.Globals, m.text())
	}
	for range m.count() {
		var f code.Func
		f.Name = m.text()
		f.Params = m.number()
		f.Slots = m.number()
		for range m.count() {
			f.Taken = append(f.Taken, m.number())
		}
		f.Around = m.number()
		for range m.count() {
			var in code.Inst
			in.Op = code.Op(m.number())
			in.A = m.number()
			in.B = m.number()
			in.Text = m.text()
			in.At = m.number()
			f.Code = append(f.Code, in)
		}
		p.Funcs = append(p.Funcs, f)
	}
	if m.at < len(b) {
		return wrong(130, m.at, "")
	}
	if s := modelRight(p); s != "ok" {
		return s
	}
	return written(p)
}

// The model of lines: patterns.

var (
	lineGlobals     = regexp.MustCompile(`(?s)^globals((?: [^ ]+)*)$`)
	lineFunction    = regexp.MustCompile(`(?s)^func ([^ ]+) (\S+) (\S+) (\S+)((?: \S+)*)$`)
	lineInstruction = regexp.MustCompile(`(?s)^\t([a-z]+) (\S+) (\S+) (\S+)(?: (".+"))?$`)
	quoted          = regexp.MustCompile(`^"(?:[ !#-\[\]-~]|\\[nt\\"]|\\x[0-9a-f]{2})+"$`)
)

func modelNumbers(words ...string) ([]int, bool) {
	var out []int
	for _, w := range words {
		n, is := new(big.Int).SetString(w, 10)
		if !is || !modelInt.MatchString(w) || !n.IsInt64() {
			return nil, false
		}
		out = append(out, int(n.Int64()))
	}
	return out, true
}

// modelQuote is a text as lex.Quote writes it.
func modelQuote(s string) string {
	var out strings.Builder
	for _, c := range []byte(s) {
		switch {
		case c == '\n':
			out.WriteString(`\n`)
		case c == '\t':
			out.WriteString(`\t`)
		case c == '"' || c == '\\':
			out.WriteString(`\` + string(rune(c)))
		case c < 32 || c > 126:
			fmt.Fprintf(&out, `\x%02x`, c)
		default:
			out.WriteByte(c)
		}
	}
	return `"` + out.String() + `"`
}

func modelUnquote(s string) (string, bool) {
	if s == "" {
		return "", true
	}
	if !quoted.MatchString(s) {
		return "", false
	}
	out, err := strconv.Unquote(s)
	return out, err == nil && modelQuote(out) == s && len(out) <= 65536
}

func modelLine(p *code.Program, number int, line string) bool {
	if number == 1 {
		m := lineGlobals.FindStringSubmatch(line)
		if m == nil {
			return false
		}
		for _, name := range strings.Split(m[1], " ")[1:] {
			p.Globals = append(p.Globals, name)
		}
		return true
	}
	if m := lineFunction.FindStringSubmatch(line); m != nil {
		n, are := modelNumbers(append(m[2:5:5], strings.Split(m[5], " ")[1:]...)...)
		if !are {
			return false
		}
		f := code.Func{Name: m[1], Params: n[0], Slots: n[1], Around: n[2], Taken: n[3:]}
		if f.Name == "-" {
			f.Name = ""
		}
		p.Funcs = append(p.Funcs, f)
		return true
	}
	m := lineInstruction.FindStringSubmatch(line)
	if m == nil || len(p.Funcs) == 0 {
		return false
	}
	n, are := modelNumbers(m[2:5]...)
	said, is := modelUnquote(m[5])
	for _, o := range operations {
		if are && is && o.name == m[1] {
			f := &p.Funcs[len(p.Funcs)-1]
			f.Code = append(f.Code, code.Inst{Op: o.op, A: n[0], B: n[1], At: n[2], Text: said})
			return true
		}
	}
	return false
}

// modelRead writes what Read must answer.
func modelRead(s string) string {
	var p code.Program
	if s == "" {
		return wrong(130, 1, "")
	}
	lines := strings.Split(s, "\n")
	for i, line := range lines {
		if i == len(lines)-1 && line == "" {
			break
		}
		if i == len(lines)-1 || !modelLine(&p, i+1, line) {
			return wrong(130, i+1, "")
		}
	}
	switch right := modelRight(p); {
	case right == "ok":
		return written(p)
	case strings.HasPrefix(right, "22"):
		return wrong(api.ErrMany, 0, "")
	}
	return wrong(api.ErrCode, 0, "")
}

// modelEncode and modelList write a right program, whole.

func modelEncode(p code.Program) string {
	var out []byte
	number := func(n int) {
		sum := new(big.Int).Mul(big.NewInt(int64(n)), big.NewInt(2))
		if n < 0 {
			sum.Neg(sum).Sub(sum, big.NewInt(1))
		}
		for sum.Cmp(big.NewInt(128)) >= 0 {
			digit := new(big.Int)
			sum.DivMod(sum, big.NewInt(128), digit)
			out = append(out, byte(digit.Int64()+128))
		}
		out = append(out, byte(sum.Int64()))
	}
	text := func(s string) {
		number(len(s))
		out = append(out, s...)
	}
	out = append(out, "GC01"...)
	number(len(p.Globals))
	for _, name := range p.Globals {
		text(name)
	}
	number(len(p.Funcs))
	for _, f := range p.Funcs {
		text(f.Name)
		number(f.Params)
		number(f.Slots)
		number(len(f.Taken))
		for _, n := range f.Taken {
			number(n)
		}
		number(f.Around)
		number(len(f.Code))
		for _, in := range f.Code {
			number(int(in.Op))
			number(in.A)
			number(in.B)
			text(in.Text)
			number(in.At)
		}
	}
	return string(out)
}

func modelList(p code.Program) string {
	var out strings.Builder
	out.WriteString(strings.Join(append([]string{"globals"}, p.Globals...), " ") + "\n")
	for _, f := range p.Funcs {
		name := f.Name
		if name == "" {
			name = "-"
		}
		fmt.Fprintf(&out, "func %s %d %d %d", name, f.Params, f.Slots, f.Around)
		for _, n := range f.Taken {
			fmt.Fprintf(&out, " %d", n)
		}
		out.WriteString("\n")
		for _, in := range f.Code {
			fmt.Fprintf(&out, "\t%s %d %d %d", cells[in.Op][0], in.A, in.B, in.At)
			if in.Text != "" {
				out.WriteString(" " + modelQuote(in.Text))
			}
			out.WriteString("\n")
		}
	}
	return out.String()
}
