package machine_test

import (
	"fmt"
	"strings"
	"testing"

	"guise/api"
	"guise/code"
)

// Each thing that takes room, with just enough of it, and with one less.
func TestRoom(t *testing.T) {
	table := tableOf(t, someTypes)
	for _, c := range []struct {
		code string
		room int
	}{
		{"text 'ab'; text 'c'; binary '+'", 3},
		{"text ''; text ''; binary '+'", 0},
		{"text 'abc'; int '1'; slice 2 /2", 0},
		{"int '1'; int '2'; list 2", 2},
		{"list 0", 0},
		{"int '1'; nil; int '2'; nil; int '1'; nil; map 3", 4}, // two entries
		{"map 0; int '1'; placeindex; nil; put; nil", 2},
		{"int '1'; nil; map 1; int '1'; placeindex; int '5'; put; nil", 2}, // the entry was there
		{"struct 0 'T'", 0},
		{"struct 0 'E'; object", 5},
		{"literal 5", 0},
		{"literal 6", 3}, // and two that it takes
		{"struct 0 'T'; select 0 'm'", 1},
		{"struct 0 'T'; select 1 'm'", 0},
		{"expression 0 'T m'", 1},
		{"nilof 0 'list'; int '1'; built 2 'append'", 1},
		{"int '1'; list 1; int '2'; built 2 'append'", 3},
		{"int '1'; list 1; int '2'; int '3'; int '4'; built 4 'append'", 5},
		{"int '2'; built 1 'make'; int '0'; int '1'; slice 2; int '2'; built 2 'append'", 2},
		{"int '2'; built 1 'make'; dup; built 2 'copy'", 4},
		{"int '3'; built 1 'make'", 3},
		{"text 'abc'; built 1 'print'", 3},
		{"text 'abc'; nil; built 2 'print'", 7}, // the blank, too
		{"built 0 'print'", 0},
		{"text 'abc'; built 1 'show'", 5},
		{"int '1'; nil; map 1; turn; drop 1; nil", 3},
		{"int '5'; turn; drop 1; nil", 0},
		{"int '1'; list 1; turn; drop 1; nil", 1},
		{"text 'abc'; turn; drop 1; nil", 0},
		{"text 'ab'; text 'c'; struct 2 'fault word more'; object; select 1 'Error'; call 0", 7},
		{"struct 0 'T'; unary '-'", 3}, // a fault's object
	} {
		code := c.code + "; return"
		enough := narrow(with(begins(code), its...), c.room)
		if o, _ := made(t, enough, table, 5).Run(50); o.End == api.Full {
			t.Errorf("P16: %s is Full with the room %d", c.code, c.room)
		}
		if c.room == 0 {
			continue
		}
		less := narrow(with(begins(code), its...), c.room-1)
		m := made(t, less, table, 5)
		o, err := m.Run(50)
		if o.End != api.Full || err != nil || !m.Over() || len(o.Out) > 0 {
			t.Errorf("P16: %s: %s with the room %d", c.code, ended(o, err), c.room-1)
		}
	}
}

// A fault that has no room is Full; it is told by nobody, and nothing that was laid down is done.
func TestFullAheadOfAFault(t *testing.T) {
	p := narrow(begins("text 'never'; deferbuilt 1 'print'; nil; unary '-'; return"), 2)
	is(t, "P16: Full", ended(made(t, p, noTypes(), 5).Run(50)), "full 0")
	is(t, "P16: the events", events(t, p, noTypes(), 5, 50), "4@0")
	p = narrow(with(begins("literal 1; nil; call 1 @3; return"), "f 0 0 -1::nil; return"), 2)
	is(t, "P16: a call's fault", ended(made(t, p, noTypes(), 5).Run(50)), "full 1")
	is(t, "P16: its events", events(t, p, noTypes(), 5, 50), "2@3:f")
}

// Room is taken from the beginning on, whatever Collect forgets, and whatever is saved between.
func TestRoomIsNotGivenBack(t *testing.T) {
	s := "func main() { for { x := make(10000) } }"
	p, table := compiled(t, s)
	must := ended(made(t, p, table, 5).Run(api.MaxFuel))
	m := made(t, p, table, 5)
	for !m.Over() {
		m.Run(7)
		m.Collect()
		m = loaded(t, saved(t, m), p, table)
	}
	is(t, "P16: room", ended(m.Run(0)), must)
	if !strings.HasPrefix(must, "full") {
		t.Error(must)
	}
}

// Fuel 0, the greatest one, one less; nothing is done behind the step that there is no fuel for.
func TestFuels(t *testing.T) {
	p := begins("int '1'; built 1 'print'; step; int '2'; built 1 'print'; tick; int '3'; built 1 'print'; list 3; return")
	for fuel, must := range []string{"spent 0 | 1", "spent 1 | 1 | 2", "done 2 | 1 | 2 | 3"} {
		is(t, "P16.2: a fuel", ended(made(t, p, noTypes(), 1).Run(fuel)), must)
	}
	m := made(t, p, noTypes(), 1)
	for range 3 {
		is(t, "P16.2: Run(0)", ended(m.Run(0)), "spent 0 | 1")
	}
	is(t, "P16.2: and on", ended(m.Run(1)), "spent 1 | 1 | 2")
	is(t, "P16.2: and on", ended(m.Run(api.MaxFuel)), "done 2 | 1 | 2 | 3")
	for _, fuel := range []int{api.MaxFuel, api.MaxFuel - 1} {
		m := made(t, begins("step; jump 0"), noTypes(), 1)
		is(t, "P16.2: much fuel", ended(m.Run(fuel)), fmt.Sprint("spent ", fuel))
		is(t, "P16.2: and more", ended(m.Run(fuel)), fmt.Sprint("spent ", 2*fuel))
	}
}

// As much as code may have: things on a stack, arguments, functions, instructions, slots.
func TestMuchCode(t *testing.T) {
	var many []code.Inst
	for range 20000 {
		many = append(many, asm("nil")...)
	}
	list := code.Program{Funcs: []code.Func{{Around: -1, Code: append(append([]code.Inst(nil), many...), asm("list 20000; built 1 'len'; step; built 1 'print'; return")...)}}}
	asModel(t, list, noTypes(), 1, 0, 5)
	is(t, "P16: a long list", ended(made(t, list, noTypes(), 1).Run(9)), "done 1 | 20000")
	call := code.Program{Funcs: []code.Func{
		{Around: -1, Code: append(append(asm("literal 1"), many...), asm("call 20000; return")...)},
		{Around: -1, Name: "f", Code: asm("nil; return")},
	}}
	is(t, "P16: many arguments", ended(made(t, call, noTypes(), 1).Run(9)), "panic 1 ! arguments 20000 for 0")
	deep := code.Program{Funcs: []code.Func{{Around: -1, Code: append(many[:20000:20000], many[:10000]...)}}}
	deep.Funcs[0].Code[29999] = asm("step")[0]
	deep.Funcs[0].Code = append(deep.Funcs[0].Code, asm("return")...)
	m := made(t, deep, noTypes(), 1)
	is(t, "P16: a high stack", ended(m.Run(0)), "spent 0")
	is(t, "P16: a high stack, kept", ended(loaded(t, saved(t, m), deep, noTypes()).Run(1)), "done 1")

	slots := code.Program{Funcs: []code.Func{
		{Around: -1, Slots: 20000, Code: asm("int '1'; store 19999; literal 1; call 0; load 19999; built 1 'print'; return")},
		{Around: -1, Name: "f", Slots: 20000, Code: asm("step; literal 1; call 0; return")},
	}}
	m = made(t, slots, noTypes(), 1000)
	is(t, "P16: many slots", ended(m.Run(1500)), "spent 1500")
	is(t, "P16: many slots, kept", ended(loaded(t, saved(t, m), slots, noTypes()).Run(9999)), "overflow 2001")

	var long []code.Inst
	for range 14999 {
		long = append(long, asm("step; nil; pop; tick")...)
	}
	all := code.Program{Funcs: []code.Func{{Around: -1, Code: append(long, asm("nil; return")...)}}}
	is(t, "P16: many instructions", ended(made(t, all, noTypes(), 1).Run(99999)), "done 29998")
}

// A print of very much at once, and one of more than there is room for.
func TestMuchPrinted(t *testing.T) {
	text := strings.Repeat("a", api.MaxText)
	code := func(n int) string {
		return "text '" + text + "'; " + strings.Repeat("dup; ", n-1) + fmt.Sprintf("built %d 'print'; return", n)
	}
	o, err := made(t, begins(code(15)), noTypes(), 1).Run(1)
	if o.End != api.Done || err != nil || len(o.Out) != 1 || len(o.Out[0]) != 15*api.MaxText+14 {
		t.Error("P16: 15 long texts:", endNames[o.End], err)
	}
	is(t, "P16: 16 long texts", ended(made(t, begins(code(16)), noTypes(), 1).Run(1)), "full 0")
	is(t, "P16: 5000 long texts", ended(made(t, begins(code(5000)), noTypes(), 1).Run(1)), "full 0")
}
