package compile

import (
	"strings"

	"guise/code"
)

// instructions are those of a function, as far as they are laid down.
type instructions struct{ all []code.Inst }

// lay lays one down for what stands at a place.
func (l *instructions) lay(at int, in code.Inst) {
	in.At, in.Text = at, strings.Clone(in.Text)
	l.all = append(l.all, in)
}

func (l *instructions) pop(at int) { l.lay(at, code.Inst{Op: code.OpPop}) }

// mark is an instruction to which others lead, that were laid down ahead of it.
type mark struct{ from []int }

// lead lays one down that leads to a mark.
func (l *instructions) lead(at int, op code.Op, to *mark) {
	to.from = append(to.from, len(l.all))
	l.lay(at, code.Inst{Op: op})
}

// here sets a mark: what is laid down next is where all lead that lead to it.
func (l *instructions) here(m *mark) {
	for _, i := range m.from {
		l.all[i].A = len(l.all)
	}
}

// tick lays down what counts a loop's turn, to which one may go back; it tells its number.
func (l *instructions) tick(at int) int {
	l.lay(at, code.Inst{Op: code.OpTick})
	return len(l.all) - 1
}
