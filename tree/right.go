package tree

import (
	"slices"
	"strings"

	"guise/api"
	"guise/lex"
)

// checker goes over a tree in its order, and counts the nodes.
type checker struct{ ahead int }

// check tells what is wrong first with a node, or with what it is the top of.
func (c *checker) check(n api.Node, as role, deep int) error {
	wanted := shapeOf(n, as)
	if code := c.fault(n, as, deep, wanted); code != api.OK {
		return wrong(code, n)
	}
	c.ahead++
	spare := secondDefault(n)
	for i, kid := range n.Kids {
		part := wanted.role(i)
		if i == spare {
			part = nothing
		}
		if err := c.check(kid, part, deep+1); err != nil {
			return err
		}
	}
	return nil
}

// fault is what is wrong with a node by itself, where it stands.
func (c *checker) fault(n api.Node, as role, deep int, wanted shape) api.Errno {
	switch {
	case c.ahead >= api.MaxNodes:
		return api.ErrMany
	case deep > api.MaxNest:
		return api.ErrDeep
	case !as.takes(n.Kind) || !textFits(n, as) || !numberFits(n):
		return api.ErrKind
	}
	return wanted.fault(len(n.Kids))
}

func wrong(code api.Errno, n api.Node) error {
	told := &api.Wrong{Code: code, At: n.At}
	if len(n.Text) <= api.MaxName {
		told.Name = strings.Clone(n.Text)
	}
	return told
}

// secondDefault is the place of a second default among a node's Kids, which are then a switch's; -1: there is none.
func secondDefault(n api.Node) int {
	defaults := 0
	for i, kid := range n.Kids {
		if kid.Kind == api.NCase && len(kid.Kids) > 0 && kid.Kids[0].Kind == api.NNone {
			defaults++
		}
		if defaults == 2 {
			return i
		}
	}
	return -1
}

// numberFits: only a wish of a protocol has a number.
func numberFits(n api.Node) bool {
	return n.N == 0 || n.Kind == api.NMethod && n.N > 0 && n.N <= api.MaxParams
}

// textFits tells whether a node's Text may be, in its role.
func textFits(n api.Node, as role) bool {
	switch n.Kind {
	case api.NType, api.NStruct, api.NProtocol, api.NFunc, api.NMethodDecl, api.NVar, api.NField, api.NEmbed,
		api.NEmbedPointer, api.NMethod, api.NReceiver, api.NDefine, api.NMake, api.NSelect:
		return isName(n.Text)
	case api.NFor, api.NRange, api.NSwitch, api.NTypeSwitch, api.NBreak, api.NContinue:
		return n.Text == "" || isName(n.Text)
	case api.NName:
		return isName(n.Text) || slices.Contains(as.words(), n.Text)
	case api.NPair:
		return as == mapPair && n.Text == "" || as == makePair && isName(n.Text)
	case api.NAssign:
		return isAssign(n.Text)
	case api.NStep:
		return n.Text == "++" || n.Text == "--"
	case api.NInt:
		return isToken(n.Text, api.TokInt)
	case api.NFloat:
		return isToken(n.Text, api.TokFloat)
	case api.NText:
		return len(n.Text) <= api.MaxText
	case api.NUnary:
		return isUnary(n.Text) && (n.Text == "*" || as != place)
	case api.NBinary:
		return binaryLevel(n.Text) > 0
	}
	return n.Text == ""
}

func isName(s string) bool { return lex.Name(s) && s != "_" }

// isToken tells whether a text is, as it stands, one token of a kind.
func isToken(s string, kind int) bool {
	tokens, err := lex.Scan(s)
	return err == nil && len(tokens) == 2 && tokens[0].Kind == kind && tokens[0].Text == s
}

func isAssign(sign string) bool {
	switch sign {
	case "=", "+=", "-=", "*=", "/=", "%=", "&=", "|=", "^=", "<<=", ">>=":
		return true
	}
	return false
}

func isUnary(sign string) bool {
	switch sign {
	case "-", "!", "^", "*":
		return true
	}
	return false
}

// Levels of expressions that are no NBinary; of those see binaryLevel.
const (
	unaryLevel   = 6
	highestLevel = 7
)

// binaryLevel is how close a sign binds its two operands; 0: it is no such sign.
func binaryLevel(sign string) int {
	switch sign {
	case "||":
		return 1
	case "&&":
		return 2
	case "==", "!=", "<", "<=", ">", ">=":
		return 3
	case "+", "-", "|", "^":
		return 4
	case "*", "/", "%", "&", "<<", ">>":
		return 5
	}
	return 0
}
