package machine_test

import (
	"fmt"
	"testing"

	"guise/code"
)

// small are instructions of which all short codes are made.
const small = "nil; int '0'; list 0; map 0; literal 1; struct 0 'T'; object; nilof 1 'T'; dup; pop; step; fresh 0; store 0; load 0; placeslot 0; placeof; placefield 'x'; placefield 'T'; placeindex; fetch; put; select 0 'x'; select 1 'm'; call 0; defer 0; turn; drop 1; unary '*'; index; list 1; built 1 'panic'; built 0 'recover'; return"

// Every seventh of all codes of four of these instructions, if it is right: in a function that the beginning calls, which catches what panics there.
func TestSmallCodes(t *testing.T) {
	t.Parallel()
	table := tableOf(t, "type T struct { x }\ntype E struct { .T }\nfunc (t *T) m() { }")
	l := asm(small)
	around := with(code.Program{Funcs: []code.Func{{Around: -1, Slots: 1, Code: asm("step @1; literal 4; defer 0; literal 2; call 0; built 1 'print'; return")}}},
		"f 0 0 -1::built 0 'recover'; return",
		"g 0 1 -1::nil; return",
		"T.m 1 1 -1::load 0; return",
		"caught 0 0 -1::built 0 'recover'; built 1 'print'; return")
	t.Run("first", func(t *testing.T) {
		for first := range l {
			t.Run(fmt.Sprint(first), func(t *testing.T) {
				t.Parallel()
				p, n := apart(around), len(l)
				ends := p.Funcs[2].Code
				for rest := first % 7; rest < n*n*n; rest += 7 {
					p.Funcs[2].Code = append([]code.Inst{l[first], l[rest%n], l[rest/n%n], l[rest/n/n]}, ends...)
					if code.Right(p) == nil {
						asModel(t, p, table, 3, 2, 1, 9)
					}
				}
			})
		}
	})
}
