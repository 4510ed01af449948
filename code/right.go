package code

import (
	"strconv"
	"strings"

	"guise/api"
	"guise/lex"
)

const (
	literalName = "func" // of each literal; a word, so that no declared function has it
	outermost   = -1     // Around of what stands in no function
)

// firstWrong asks the chapter's five things in their order. Each relies on those ahead of it.
func firstWrong(p Program) *api.Wrong {
	for _, ask := range []func(Program) *api.Wrong{tooMany, wrongGlobal, wrongFunction, wrongInstruction, wrongStack} {
		if w := ask(p); w != nil {
			return w
		}
	}
	return nil
}

func tooMany(p Program) *api.Wrong {
	instructions := 0
	for _, f := range p.Funcs {
		instructions += len(f.Code)
	}
	if len(p.Funcs) < 1 || len(p.Funcs) > api.MaxNodes || len(p.Globals) > api.MaxNodes || instructions > api.MaxCode {
		return &api.Wrong{Code: api.ErrMany}
	}
	for number, f := range p.Funcs {
		if f.Slots > api.MaxNodes || len(f.Taken) > api.MaxNodes {
			return &api.Wrong{Code: api.ErrMany, At: number}
		}
	}
	return nil
}

func wrongGlobal(p Program) *api.Wrong {
	seen := map[string]struct{}{}
	for _, name := range p.Globals {
		if _, twice := seen[name]; twice || !lex.Name(name) {
			return &api.Wrong{Code: api.ErrCode}
		}
		seen[name] = struct{}{}
	}
	return nil
}

func wrongFunction(p Program) *api.Wrong {
	declared := map[string]struct{}{}
	for number, f := range p.Funcs {
		_, twice := declared[f.Name]
		if twice || !rightStanding(number, f) || !rightParams(f) || !rightTaken(p, f) {
			return &api.Wrong{Code: api.ErrCode, At: number}
		}
		if isDeclared(p, number) {
			declared[f.Name] = struct{}{}
		}
	}
	return nil
}

// isDeclared is asked of the number of a function whose Around may be.
func isDeclared(p Program, number int) bool {
	return number > 0 && p.Funcs[number].Around == outermost
}

// rightStanding: whether a function is the beginning, a declared one or a literal.
func rightStanding(number int, f Func) bool {
	switch {
	case number == 0:
		return f.Name == "" && f.Params == 0 && len(f.Taken) == 0 && f.Around == outermost
	case f.Around == outermost:
		return len(f.Taken) == 0 && isDeclaredName(f.Name)
	}
	return f.Name == literalName && 0 <= f.Around && f.Around < number
}

func isDeclaredName(s string) bool {
	first, method, dotted := strings.Cut(s, ".")
	return lex.Name(first) && (!dotted || lex.Name(method))
}

// rightParams allows one more than the language: a method's receiver.
func rightParams(f Func) bool {
	return 0 <= f.Params && f.Params <= api.MaxParams+1 && f.Params <= f.Slots
}

func rightTaken(p Program, f Func) bool {
	for _, t := range f.Taken {
		around := p.Funcs[f.Around]
		if t >= around.Slots || -1-t >= len(around.Taken) {
			return false
		}
	}
	return true
}

func wrongInstruction(p Program) *api.Wrong {
	var first *api.Wrong
functions:
	for number, f := range p.Funcs {
		if len(f.Code) == 0 {
			first = &api.Wrong{Code: api.ErrCode, At: number}
			break
		}
		for i := range f.Code {
			if !rightInstruction(p, number, i) {
				first = wrongAt(number, i)
				break functions
			}
		}
	}
	return first
}

// wrongAt tells an instruction of a function.
func wrongAt(number, instruction int) *api.Wrong {
	return &api.Wrong{Code: api.ErrCode, At: number, Name: strconv.Itoa(instruction)}
}
