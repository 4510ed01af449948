package peep_test

import (
	"fmt"
	"math/big"
	"slices"

	"guise/code"
)

// broken reads the chapter's S1 but for its second point: which of its points is not so of q, made of p; empty: none.
func broken(p, q code.Program) string {
	if wrong := brokenHeads(p, q); wrong != "" {
		return wrong
	}
	if err := code.Right(q); err != nil {
		return "S1: what comes out is not right: " + err.Error()
	}
	for k, f := range q.Funcs {
		if wrong := brokenCode(f.Code); wrong != "" {
			return fmt.Sprintf("%s, in function %d", wrong, k)
		}
		if wrong := brokenJumps(q, k); wrong != "" {
			return wrong
		}
	}
	return ""
}

func brokenHeads(p, q code.Program) string {
	if !slices.Equal(p.Globals, q.Globals) || len(p.Funcs) != len(q.Funcs) {
		return "S1.1: other variables, or other functions"
	}
	for k, f := range p.Funcs {
		g := q.Funcs[k]
		if f.Name != g.Name || f.Params != g.Params || f.Slots != g.Slots || f.Around != g.Around || !slices.Equal(f.Taken, g.Taken) {
			return fmt.Sprint("S1.1: another head of function ", k)
		}
		if len(g.Code) > len(f.Code) {
			return fmt.Sprint("S1.1: more instructions in function ", k)
		}
	}
	return ""
}

// brokenCode is of the points 3, 4, 5 and 7, and code that is right.
func brokenCode(l []code.Inst) string {
	comes := comeTo(l)
	mark := map[int]bool{}
	for i, in := range l {
		if !comes[i] {
			return fmt.Sprint("S1.3: nobody comes to instruction ", i)
		}
		if goesTo(in.Op) {
			mark[in.A] = true
		}
	}
	for i, in := range l {
		_, one := workedOut(l[max(i-1, 0):i], in)
		_, two := workedOut(l[max(i-2, 0):i], in)
		switch {
		case in.Op == code.OpUnary && one && !mark[i], in.Op == code.OpBinary && two && !mark[i] && !mark[i-1]:
			return fmt.Sprint("S1.4: an operation of constants: instruction ", i)
		case in.Op == code.OpBranch && i > 0 && l[i-1].Op == code.OpBool && !mark[i]:
			return fmt.Sprint("S1.5: a bool ahead of a branch: instruction ", i)
		case in.Op == code.OpJump && in.A == i+1:
			return fmt.Sprint("S1.7: a jump to the one behind it: instruction ", i)
		}
	}
	return ""
}

// comeTo tells which instructions of right code are come to.
func comeTo(l []code.Inst) []bool {
	comes := make([]bool, len(l))
	open := []int{0}
	for len(open) > 0 {
		i := open[0]
		open = open[1:]
		if comes[i] {
			continue
		}
		comes[i] = true
		if l[i].Op != code.OpJump && l[i].Op != code.OpReturn {
			open = append(open, i+1)
		}
		if goesTo(l[i].Op) {
			open = append(open, l[i].A)
		}
	}
	return comes
}

// brokenJumps is of the point 6.
func brokenJumps(q code.Program, k int) string {
	l := q.Funcs[k].Code
	for i, in := range l {
		if !goesTo(in.Op) || l[in.A].Op != code.OpJump {
			continue
		}
		other := apart(q)
		other.Funcs[k].Code[i].A = l[in.A].A
		if code.Right(other) == nil {
			return fmt.Sprintf("S1.6: instruction %d of function %d names a jump", i, k)
		}
	}
	return ""
}

// workedOut reads chapters 6 and 16: what an operation makes of the constants, whether it has no fault of them; false, if these are no constants, or another number of them.
func workedOut(l []code.Inst, in code.Inst) (code.Inst, bool) {
	for _, c := range l {
		if c.Op != code.OpInt && c.Op != code.OpBool {
			return code.Inst{}, false
		}
	}
	switch {
	case in.Op == code.OpUnary && len(l) == 1 && l[0].Op == code.OpBool:
		return to(code.OpBool, 1-l[0].A), in.Text == "!"
	case in.Op == code.OpUnary && len(l) == 1:
		return workedUnary(in.Text, whole(l[0]))
	case in.Op == code.OpBinary && len(l) == 2 && (in.Text == "==" || in.Text == "!="):
		same := l[0].Op == l[1].Op && l[0].A == l[1].A && l[0].Text == l[1].Text
		return bit(same == (in.Text == "==")), true
	case in.Op == code.OpBinary && len(l) == 2 && l[0].Op == code.OpInt && l[1].Op == code.OpInt:
		return workedBinary(in.Text, whole(l[0]), whole(l[1]))
	}
	return code.Inst{}, false
}

func whole(in code.Inst) *big.Int {
	n, _ := new(big.Int).SetString(in.Text, 10)
	return n
}

func bit(b bool) code.Inst {
	if b {
		return yes
	}
	return no
}

// round is a number modulo 2^64, with a sign.
func round(n *big.Int) code.Inst {
	size := new(big.Int).Lsh(big.NewInt(1), 64)
	n = new(big.Int).Mod(n, size)
	if n.Bit(63) == 1 {
		n.Sub(n, size)
	}
	return code.Inst{Op: code.OpInt, Text: n.String()}
}

func workedUnary(sign string, n *big.Int) (code.Inst, bool) {
	switch sign {
	case "-":
		return round(new(big.Int).Neg(n)), true
	case "^":
		return round(new(big.Int).Not(n)), true
	case "++":
		return round(new(big.Int).Add(n, big.NewInt(1))), true
	case "--":
		return round(new(big.Int).Sub(n, big.NewInt(1))), true
	}
	return code.Inst{}, false
}

func workedBinary(sign string, a, b *big.Int) (code.Inst, bool) {
	out := new(big.Int)
	switch sign {
	case "<":
		return bit(a.Cmp(b) < 0), true
	case "<=":
		return bit(a.Cmp(b) <= 0), true
	case ">":
		return bit(a.Cmp(b) > 0), true
	case ">=":
		return bit(a.Cmp(b) >= 0), true
	case "/", "%":
		if b.Sign() == 0 {
			return code.Inst{}, false
		}
		quotient, rest := out.QuoRem(a, b, new(big.Int))
		return round(map[string]*big.Int{"/": quotient, "%": rest}[sign]), true
	case "<<", ">>":
		if b.Sign() < 0 {
			return code.Inst{}, false
		}
		by := uint(min(b.Int64(), 70))
		if sign == "<<" {
			return round(out.Lsh(a, by)), true
		}
		return round(out.Rsh(a, by)), true
	}
	make := map[string]func(a, b *big.Int) *big.Int{"+": out.Add, "-": out.Sub, "*": out.Mul, "&": out.And, "|": out.Or, "^": out.Xor}
	return round(make[sign](a, b)), true
}
