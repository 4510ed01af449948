package code

import (
	"slices"
	"strconv"
	"strings"

	"guise/api"
	"guise/lex"
)

// operations are the names of the operations, in their order.
const operations = "step tick int float text bool nil nilof load global taken fresh store storeglobal storetaken pop dup " +
	"unary binary truth convert select expression index indextwo slice list map struct object literal assert holds " +
	"jump branch and or placeslot placeglobal placetaken placeof placeindex placefield fetch put " +
	"call built defer deferbuilt return turn next drop"

// What lines begin with.
const (
	globalsWord = "globals"
	funcWord    = "func"
	indent      = "\t"
)

const noName = "-" // stands for the name of a function that has none

// listed is the lines of a program that is right.
func listed(p Program) string {
	names := strings.Fields(operations)
	var out strings.Builder
	line(&out, globalsWord, p.Globals...)
	for _, f := range p.Funcs {
		line(&out, funcWord, functionWords(f)...)
		for _, in := range f.Code {
			line(&out, indent+names[in.Op-1], instructionWords(in)...)
		}
	}
	return out.String()
}

func line(out *strings.Builder, first string, words ...string) {
	out.WriteString(first)
	for _, word := range words {
		out.WriteString(" ")
		out.WriteString(word)
	}
	out.WriteString("\n")
}

func functionWords(f Func) []string {
	name := f.Name
	if name == "" {
		name = noName
	}
	return append([]string{name}, inDigits(append([]int{f.Params, f.Slots, f.Around}, f.Taken...)...)...)
}

func instructionWords(in Inst) []string {
	words := inDigits(in.A, in.B, in.At)
	if in.Text != "" {
		words = append(words, lex.Quote(in.Text))
	}
	return words
}

func inDigits(all ...int) []string {
	var out []string
	for _, n := range all {
		out = append(out, strconv.Itoa(n))
	}
	return out
}

// fromLines is the program of lines, right or not, or the line that is none such.
func fromLines(s string) (Program, *api.Wrong) {
	r := &lineReader{names: strings.Fields(operations)}
	for number := 1; number == 1 || s != ""; number++ {
		line, rest, ended := strings.Cut(s, "\n")
		if !ended || !r.line(number, line) {
			return Program{}, &api.Wrong{Code: api.ErrCode, At: number}
		}
		s = rest
	}
	return r.program, nil
}

// lineReader has the program as far as its lines have been read.
type lineReader struct {
	names   []string
	program Program
}

func (r *lineReader) line(number int, s string) bool {
	instruction, isOne := strings.CutPrefix(s, indent)
	switch {
	case number == 1:
		return r.globals(strings.Split(s, " "))
	case isOne:
		return r.instruction(strings.SplitN(instruction, " ", 5))
	}
	return r.function(strings.Split(s, " "))
}

// globals keeps copies: what is handed in is not kept.
func (r *lineReader) globals(words []string) bool {
	if words[0] != globalsWord || slices.Contains(words, "") {
		return false
	}
	for _, name := range words[1:] {
		r.program.Globals = append(r.program.Globals, strings.Clone(name))
	}
	return true
}

func (r *lineReader) function(words []string) bool {
	if len(words) < 5 || words[0] != funcWord || words[1] == "" {
		return false
	}
	numbers, are := readInts(words[2:])
	if !are {
		return false
	}
	f := Func{Params: numbers[0], Slots: numbers[1], Around: numbers[2], Taken: numbers[3:]}
	if words[1] != noName {
		f.Name = strings.Clone(words[1])
	}
	r.program.Funcs = append(r.program.Funcs, f)
	return true
}

// instruction reads the words of one: its text, which may have blanks in it, is the last one.
func (r *lineReader) instruction(words []string) bool {
	if len(r.program.Funcs) == 0 || len(words) < 4 {
		return false
	}
	numbers, are := readInts(words[1:4])
	text, isText := readText(words[4:])
	operation := slices.Index(r.names, words[0])
	if !are || !isText || operation < 0 {
		return false
	}
	f := &r.program.Funcs[len(r.program.Funcs)-1]
	f.Code = append(f.Code, Inst{Op: OpStep + Op(operation), A: numbers[0], B: numbers[1], Text: text, At: numbers[2]})
	return true
}

func readInts(words []string) ([]int, bool) {
	var out []int
	for _, word := range words {
		n, is := readInt(word)
		if !is {
			return nil, false
		}
		out = append(out, n)
	}
	return out, true
}

// readText reads what stands behind an instruction's numbers, if there is something: an empty text is not written.
func readText(words []string) (string, bool) {
	if len(words) == 0 {
		return "", true
	}
	text, err := lex.Unquote(words[0])
	return text, err == nil && text != "" && lex.Quote(text) == words[0]
}
