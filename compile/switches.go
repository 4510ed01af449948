package compile

import (
	"slices"

	"guise/code"
)

// asking is how a switch asks its cases. The value that it is over lies on the stack meanwhile, if there is one.
type asking interface {
	// ask leads to yes, if this one of a case's values, or types, is it.
	ask(f *function, one *part, yes *mark)
	// above is how many things lie above the switch's value then.
	above() int
	// drop takes the switch's value off, ahead of a case's statements.
	drop(f *function, c *part)
}

// byTruth asks which condition is true, byValue which value is equal, byType which type is held.
type (
	byTruth struct{}
	byValue struct{}
	byType  struct{}
)

func (byTruth) ask(f *function, one *part, yes *mark) {
	var no mark
	f.value(one)
	f.lead(one.At, code.OpBranch, &no)
	f.lead(one.At, code.OpJump, yes)
	f.here(&no)
}

func (byTruth) above() int            { return 0 }
func (byTruth) drop(*function, *part) {}

// ask turns the question round, since a branch leads on where something is false.
func (byValue) ask(f *function, one *part, yes *mark) {
	f.lay(one.At, code.Inst{Op: code.OpDup})
	f.value(one)
	f.lay(one.At, code.Inst{Op: code.OpBinary, Text: "!="})
	f.lead(one.At, code.OpBranch, yes)
}

func (byValue) above() int                { return 0 }
func (byValue) drop(f *function, c *part) { f.pop(c.At) }

// ask leads on with all that lies there then: the value, what was held of it, and the answer.
func (byType) ask(f *function, one *part, yes *mark) {
	in := one.typed(code.OpHolds)
	if one.Text == "nil" {
		in = code.Inst{Op: code.OpHolds, A: 2}
	}
	f.lay(one.At, code.Inst{Op: code.OpDup})
	f.lay(one.At, in)
	f.lead(one.At, code.OpOr, yes)
	f.pop(one.At)
}

func (byType) above() int                { return 2 }
func (byType) drop(f *function, c *part) { f.fresh(c) }

func (f *function) choose(p *part) {
	if p.kids[0].isLeftOut() {
		f.cases(p, p.kids[1:], byTruth{})
		return
	}
	f.value(p.kids[0])
	f.cases(p, p.kids[1:], byValue{})
}

func (f *function) chooseType(p *part) {
	f.value(p.kids[1])
	f.cases(p, p.kids[2:], byType{})
}

// row is where a case is come to: from one of its values, as the default, by a fallthrough.
type row struct{ asked, otherwise, through mark }

// cases asks all of them ahead of the first one's statements.
func (f *function) cases(p *part, all []*part, by asking) {
	t := f.enter(p)
	rows := make([]row, len(all)+1) // no fallthrough leads to the one more
	for i, c := range all {
		for _, one := range c.kids[0].kids {
			by.ask(f, one, &rows[i].asked)
		}
	}
	if i := slices.IndexFunc(all, isDefault); i >= 0 {
		f.lead(p.At, code.OpJump, &rows[i].otherwise)
	} else {
		by.drop(f, p)
		f.lead(p.At, code.OpJump, &t.end)
	}
	for i, c := range all {
		t.next = &rows[i+1].through
		f.caseOf(c, &rows[i], by)
		if i < len(all)-1 {
			f.lead(c.At, code.OpJump, &t.end)
		}
	}
	f.leave()
}

func isDefault(c *part) bool { return c.kids[0].isLeftOut() }

// caseOf lays down a case's statements.
func (f *function) caseOf(c *part, from *row, by asking) {
	if !isDefault(c) {
		f.here(&from.asked)
		for range by.above() {
			f.pop(c.At)
		}
	}
	f.here(&from.otherwise)
	by.drop(f, c)
	f.here(&from.through)
	f.block(c.kids[1])
}
