package code

import (
	"strings"

	"guise/api"
)

// head is what all bytes of programs begin with.
const head = "GC01"

// A number's bytes: digits to the base 128, of an int's 64 bits so many at most, whose last one is 1 at most.
const (
	base      = 128
	digitBits = 7
	maxDigits = 10
)

// encoded is the bytes of a program that is right.
func encoded(p Program) string {
	w := writer(head)
	w.numbers(len(p.Globals))
	for _, name := range p.Globals {
		w.text(name)
	}
	w.numbers(len(p.Funcs))
	for _, f := range p.Funcs {
		w.function(f)
	}
	return string(w)
}

// writer is the bytes that have been laid down.
type writer []byte

func (w *writer) function(f Func) {
	w.text(f.Name)
	w.numbers(f.Params, f.Slots, len(f.Taken))
	w.numbers(f.Taken...)
	w.numbers(f.Around, len(f.Code))
	for _, in := range f.Code {
		w.numbers(int(in.Op), in.A, in.B)
		w.text(in.Text)
		w.numbers(in.At)
	}
}

func (w *writer) text(s string) {
	w.numbers(len(s))
	*w = append(*w, s...)
}

func (w *writer) numbers(all ...int) {
	for _, n := range all {
		folded := uint64(n)<<1 ^ uint64(n>>63)
		for ; folded >= base; folded >>= digitBits {
			*w = append(*w, byte(folded)|base)
		}
		*w = append(*w, byte(folded))
	}
}

// decoded is the program of bytes, right or not, or what is wrong with the bytes.
func decoded(b string) (Program, *api.Wrong) {
	r := &reader{bytes: b}
	r.head()
	p := Program{Globals: list(r, r.text), Funcs: list(r, r.function)}
	if r.at < len(b) {
		r.fail(r.at)
	}
	return p, r.wrong
}

// reader reads bytes from the front on; behind the first thing that is wrong it reads nothing more.
type reader struct {
	bytes string
	at    int
	wrong *api.Wrong
}

// fail keeps the first thing that is wrong.
func (r *reader) fail(at int) {
	if r.wrong == nil {
		r.wrong = &api.Wrong{Code: api.ErrCode, At: at}
	}
}

func (r *reader) left() int { return len(r.bytes) - r.at }

func (r *reader) head() {
	for r.at < len(head) && r.left() > 0 && r.bytes[r.at] == head[r.at] {
		r.at++
	}
	if r.at < len(head) {
		r.fail(r.at)
	}
}

func (r *reader) number() int {
	begin := r.at
	folded := uint64(0)
	for digit := 1; r.wrong == nil; digit++ {
		if r.left() == 0 {
			r.fail(r.at)
			break
		}
		b := r.bytes[r.at]
		r.at++
		if digit == maxDigits && b > 1 || digit > 1 && b == 0 {
			r.fail(begin)
		}
		folded |= uint64(b%base) << (digitBits * (digit - 1))
		if b < base {
			break
		}
	}
	return int(folded>>1) ^ -int(folded&1)
}

// count is a number of things of which each has a byte at least.
func (r *reader) count() int {
	begin := r.at
	n := r.number()
	if n < 0 || n > r.left() {
		r.fail(begin)
	}
	if r.wrong != nil {
		return 0
	}
	return n
}

// text is a copy: what is handed in is not kept.
func (r *reader) text() string {
	n := r.count()
	r.at += n
	return strings.Clone(r.bytes[r.at-n : r.at])
}

func (r *reader) function() Func {
	return Func{Name: r.text(), Params: r.number(), Slots: r.number(), Taken: list(r, r.number), Around: r.number(), Code: list(r, r.instruction)}
}

func (r *reader) instruction() Inst {
	return Inst{Op: Op(r.number()), A: r.number(), B: r.number(), Text: r.text(), At: r.number()}
}

// list grows item by item: how many there are is only said, and each takes more memory than it has bytes.
func list[T any](r *reader, item func() T) []T {
	var out []T
	for range r.count() {
		if r.wrong != nil {
			break
		}
		out = append(out, item())
	}
	return out
}
