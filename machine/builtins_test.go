package machine_test

import (
	"fmt"
	"strings"
	"testing"

	"guise/api"
)

func TestBuiltInCalls(t *testing.T) {
	three := "int '1'; int '2'; int '3'; list 3; "
	ask(t, tableOf(t, someTypes), []asked{
		{three + "built 1 'len'", "3 int"},
		{"nilof 0 'L'; built 1 'len'", "0 int"},
		{"nilof 0 'map'; built 1 'len'", "0 int"},
		{"text 'abc'; convert 4 'S'; built 1 'len'", "3 int"},
		{"int '1'; nil; map 1; built 1 'len'", "1 int"},
		{three + "int '0'; int '1'; slice 2; built 1 'cap'", "3 int"},
		{"nilof 0 'list'; built 1 'cap'", "0 int"},
		{"list 0; built 1 'append'", "[] list"},
		{"nilof 0 'list'; built 1 'append'", "nil(list) list"},
		{"nilof 0 'L'; int '1'; built 2 'append'", "L([1]) L"},
		{three + "fresh 0; load 0; int '0'; int '1'; slice 2; int '9'; built 2 'append'; pop; load 0", "[1, 9, 3] list"},
		{three + "int '4'; built 2 'append'; built 1 'cap'", "6 int"},
		{three + "int '4'; int '5'; int '6'; int '7'; built 5 'append'; built 1 'cap'", "7 int"},
		{three + "fresh 0; load 0; int '1'; int '3'; slice 2; load 0; built 2 'copy'; pop; load 0", "[1, 1, 2] list"},
		{three + "nilof 0 'list'; built 2 'copy'", "0 int"},
		{"int '1'; nil; map 1; fresh 0; load 0; int '1'; built 2 'delete'; pop; load 0", "map{} map"},
		{"nilof 0 'map'; int '1'; built 2 'delete'", "nil nil"},
		{"int '2'; built 1 'make'", "[nil, nil] list"},
		{"int '2'; convert 2 'K'; built 1 'make'", "[nil, nil] list"},
		{"int '65536'; built 1 'make'; built 1 'len'", "65536 int"},
		{"nil; built 1 'typeof'", "nil text"},
		{"nilof 1 'T'; built 1 'typeof'", "*T text"},
		{"text 'a'; built 1 'show'", `"a" text`},
		{"built 0 'recover'", "nil nil"},
		{"built 0 'recover'; built 0 'recover'; list 2", "[nil, nil] list"},
	})
}

func TestBuiltInFaults(t *testing.T) {
	var rows []asked
	for name, wants := range map[string]int{"cap": 1, "copy": 2, "delete": 2, "len": 1, "make": 1, "panic": 1, "show": 1, "typeof": 1, "recover": 0} {
		for n := range 4 {
			if n != wants {
				rows = append(rows, asked{strings.Repeat("nil; ", n) + fmt.Sprintf("built %d '%s'", n, name), fmt.Sprintf("! arguments %d for %d", n, wants)})
			}
		}
	}
	ask(t, tableOf(t, someTypes), append(rows, []asked{
		{"built 0 'append'", "! arguments 0 for 1"},
		{"nil; int '1'; built 2 'append'", "! operand append nil int"},
		{"map 0; built 1 'cap'", "! operand cap map"},
		{"text 'a'; built 1 'cap'", "! operand cap text"},
		{"list 0; nil; built 2 'copy'", "! operand copy list nil"},
		{"nil; list 0; built 2 'copy'", "! operand copy nil list"},
		{"list 0; int '1'; built 2 'delete'", "! operand delete list int"},
		{"map 0; list 0; built 2 'delete'", "! key list"},
		{"nilof 0 'map'; map 0; built 2 'delete'", "! key map"},
		{"nilof 1 'T'; built 1 'len'", "! operand len *T"},
		{"text '1'; built 1 'make'", "! operand make text"},
		{"int '-1'; built 1 'make'", "! count -1"},
		{"int '65537'; built 1 'make'", "! count 65537"},
		{"nil; built 1 'panic'", "! panic"},
		{"text 'x'; built 1 'panic'", `! "x"`},
		{"int '3'; convert 2 'K'; built 1 'panic'", "! K(3)"},
	}...))
}

// What is shown is longer than a text may be.
func TestTooLongToBeShown(t *testing.T) {
	long := "text '" + strings.Repeat("a", api.MaxText) + "'; "
	wide := "int '21845'; built 1 'make'; " // [nil, .. ]: 5 bytes each
	ask(t, tableOf(t, someTypes), []asked{
		{long + "built 1 'len'", "65536 int"},
		{long + "built 1 'show'", "! count 65537"},
		{long + "list 1; built 1 'print'", "! count 65537"},
		{wide + "built 1 'show'", "! count 65537"},
		{wide + "built 1 'print'", "! count 65537"},
		{"text 'a'; " + long + "binary '+'", "! count 65537"},
		{long + "struct 1 'fault word'; object; select 1 'Error'; call 0; built 1 'len'", "65536 int"},
		{long + "text 'b'; struct 2 'fault word more'; object; select 1 'Error'; call 0", "! count 65537"},
		{wide + "struct 1 'fault word'; object; select 1 'Error'; call 0", "! count 65537"},
	})
	m := made(t, begins(long+"list 1; built 1 'panic'; return"), noTypes(), 1)
	is(t, "P16.2: a long panic", ended(m.Run(1)), "panic 0 ! ..")
	m = made(t, begins(wide+"text 'w'; struct 2 'fault more word'; object; built 1 'panic'; return"), noTypes(), 1)
	is(t, "P16.2: a long fault", ended(m.Run(1)), "panic 0 ! w ..")
}

// Error tells word and more as print does.
func TestErrorOfAFault(t *testing.T) {
	fault := func(word, more string) string {
		return word + "; " + more + "; struct 2 'fault word more'; object; select 1 'Error'; call 0"
	}
	ask(t, tableOf(t, someTypes), []asked{
		{fault("text 'a'", "text 'b'"), "a b text"},
		{fault("text 'a'", "text ''"), "a text"},
		{fault("text 'a'", "nil"), "a text"},
		{fault("nil", "nil"), "nil text"},
		{fault("nil", "text 'b'"), "nil b text"},
		{fault("int '1'", "list 0"), "1 [] text"},
		{fault("text ''", "text ''"), " text"},
		{"nilof 1 'fault'; select 0 'Error'", "func func"},
		{"nilof 1 'fault'; select 0 'Error'; call 0", "! nil field word"},
		{"nilof 1 'fault'; select 0 'Error'; nil; call 1", "! arguments 1 for 0"},
		{"struct 0 'fault'; select 0 'Error'", "! missing Error of fault"},
	})
}
