package code

import (
	"slices"
	"strconv"
	"strings"

	"guise/api"
	"guise/lex"
)

// What Text may be, one of each row, with blanks between.
const (
	unaries  = "- ! ^ * ++ --"
	binaries = "+ - * / % & | ^ << >> == != < <= > >="
	truths   = "&& ||"
	builtins = "append cap copy delete len make panic print recover show typeof"
)

// anyType is the one type's text that only assertions have.
const anyType = "any"

// rightText is asked of an instruction whose A may be.
func rightText(in Inst) bool {
	switch in.Op {
	case OpInt:
		_, is := readInt(in.Text)
		return is
	case OpFloat:
		return isFloat(in.Text)
	case OpText:
		return len(in.Text) <= api.MaxText
	case OpNilOf:
		return isType(in.Text, in.A == 1) && in.Text != anyType
	case OpConvert:
		return isType(in.Text, false) && in.Text != anyType
	case OpAssert:
		return isType(in.Text, in.A == 1)
	case OpHolds:
		return in.A == 2 && in.Text == "" || in.A < 2 && isType(in.Text, in.A == 1)
	case OpUnary:
		return isOneOf(in.Text, unaries)
	case OpBinary:
		return isOneOf(in.Text, binaries)
	case OpTruth:
		return isOneOf(in.Text, truths)
	case OpSelect, OpPlaceField:
		return lex.Name(in.Text)
	case OpExpression:
		return areNames(in.Text, 2)
	case OpStruct:
		return areNames(in.Text, in.A+1) && noneTwice(strings.Split(in.Text, " ")[1:])
	case OpBuilt, OpDeferBuilt:
		return isOneOf(in.Text, builtins)
	}
	return in.Text == ""
}

// readInt is the int that a text tells, if it is written as List writes it.
func readInt(s string) (int, bool) {
	n, err := strconv.Atoi(s)
	return n, err == nil && strconv.Itoa(n) == s
}

const (
	sixteenths = "0123456789abcdef"
	infinity   = 0x7FF0000000000000 // a float's bits without its sign that are above these are a NaN's
	oneNaN     = "7ff8000000000001"
)

func isFloat(s string) bool {
	if len(s) != 16 || strings.Trim(s, sixteenths) != "" {
		return false
	}
	bits, err := strconv.ParseUint(s, 16, 64)
	return err == nil && (bits&^(1<<63) <= infinity || s == oneNaN)
}

// isType: whether s is a type's text; there are pointers to what has a name alone.
func isType(s string, pointer bool) bool {
	switch s {
	case anyType, "map", "func":
		return !pointer
	}
	return lex.Name(s)
}

// isOneOf asks for s among words with blanks between.
func isOneOf(s, words string) bool {
	return slices.Contains(strings.Fields(words), s)
}

// areNames: whether s is so many names, with a blank between each two. How long it may be is asked first: s may be of any length.
func areNames(s string, count int) bool {
	if len(s) > count*(api.MaxName+1) {
		return false
	}
	names := strings.Split(s, " ")
	for _, name := range names {
		if !lex.Name(name) {
			return false
		}
	}
	return len(names) == count
}

func noneTwice(names []string) bool {
	for i, name := range names {
		if slices.Contains(names[:i], name) {
			return false
		}
	}
	return true
}
