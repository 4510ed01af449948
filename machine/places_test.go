package machine_test

import "testing"

// Places are found, and laid down at once.
func TestPlaces(t *testing.T) {
	e := "int '5'; struct 1 'T x'; int '6'; struct 2 'E T z'; fresh 0; "
	ask(t, tableOf(t, someTypes), []asked{
		{e + "placeslot 0; placefield 'x'; int '7'; put; load 0", "E{T: T{x: 7, y: nil}, z: 6} E"},
		{e + "placeslot 0; placefield 'T'; placefield 'y'; int '7'; put; load 0", "E{T: T{x: 5, y: 7}, z: 6} E"},
		{e + "placeslot 0; placefield 'T'; struct 0 'T'; put; load 0", "E{T: T{x: nil, y: nil}, z: 6} E"},
		{e + "load 0; object; fresh 1; load 1; placefield 'x'; int '7'; put; load 1", "&E{T: T{x: 7, y: nil}, z: 6} *E"},
		{e + "load 0; object; fresh 1; placeslot 1; placefield 'x'; int '7'; put; load 1", "&E{T: T{x: 7, y: nil}, z: 6} *E"},
		{e + "load 0; object; fresh 1; load 1; placeof; placefield 'x'; int '7'; put; load 1", "&E{T: T{x: 7, y: nil}, z: 6} *E"},
		{e + "load 0; object; fresh 1; load 1; placeof; struct 0 'E'; put; load 1", "&E{T: T{x: nil, y: nil}, z: nil} *E"},
		{"struct 0 'T'; object; struct 1 'Q T'; fresh 0; placeslot 0; placefield 'x'; int '3'; put; load 0", "Q{T: &T{x: 3, y: nil}, w: nil} Q"},
		{"struct 0 'T'; object; struct 1 'Q T'; placefield 'x'; int '3'; put; nil", "! place"}, // a struct that was a value
		{"struct 0 'T'; object; struct 1 'Q T'; object; placefield 'x'; int '3'; put; nil", "nil nil"},
		{"int '1'; int '2'; list 2; fresh 0; load 0; int '1'; placeindex; text 'a'; put; load 0", `[1, "a"] list`},
		{"int '1'; struct 0 'T'; list 2; fresh 0; load 0; int '1'; placeindex; placefield 'y'; text 'a'; put; load 0", `[1, T{x: nil, y: "a"}] list`},
		{"map 0; fresh 0; load 0; int '1'; placeindex; text 'a'; put; load 0", `map{1: "a"} map`},
		{"map 0; fresh 0; load 0; int '1'; placeindex; fetch; list 1; put; load 0", "map{1: [nil]} map"},
		{"int '1'; struct 0 'T'; object; map 1; fresh 0; load 0; int '1'; placeindex; placefield 'x'; int '2'; put; load 0", "map{1: &T{x: 2, y: nil}} map"},
	})
}

func TestPlacesThatAreNone(t *testing.T) {
	ask(t, tableOf(t, someTypes), []asked{
		{"nilof 1 'T'; placeof; nil; put; nil", "! nil pointer"},
		{"int '1'; placeof; nil; put; nil", "! operand * int"},
		{"nil; placeof; nil; put; nil", "! operand * nil"},
		{"list 0; int '0'; placeindex; nil; put; nil", "! range index 0 of 0"},
		{"nilof 0 'list'; int '0'; placeindex; nil; put; nil", "! range index 0 of 0"},
		{"list 0; nil; placeindex; nil; put; nil", "! operand [] list nil"},
		{"text 'ab'; int '0'; placeindex; nil; put; nil", "! operand [] text int"},
		{"nil; int '0'; placeindex; nil; put; nil", "! operand [] nil int"},
		{"nilof 0 'map'; list 0; placeindex; nil; put; nil", "! nil map"}, // ahead of the key
		{"map 0; list 0; placeindex; nil; put; nil", "! key list"},
		{"load 0; placefield 'x'; nil; put; nil", "! nil field x"},
		{"placeslot 0; placefield 'x'; nil; put; nil", "! nil field x"},
		{"placeglobal 0; placefield 'm'; nil; put; nil", "! nil field m"},
		{"int '1'; placefield 'x'; nil; put; nil", "! missing x of int"},
		{"struct 0 'T'; fresh 0; placeslot 0; placefield 'z'; nil; put; nil", "! missing z of T"},
		{"struct 0 'W'; fresh 0; placeslot 0; placefield 'u'; nil; put; nil", "! missing u of W twice"},
		{"struct 0 'T'; fresh 0; placeslot 0; placefield 'm'; nil; put; nil", "! place"},
		{"struct 0 'T'; fresh 0; placeslot 0; placefield 'set'; nil; put; nil", "! missing set of T"},
		{"struct 0 'T'; object; placefield 'set'; nil; put; nil", "! place"},
		{"int '1'; convert 2 'K'; placefield 'm'; nil; put; nil", "! place"},
		{"struct 0 'T'; placefield 'x'; nil; put; nil", "! place"},
		{"nilof 1 'T'; placefield 'm'; nil; put; nil", "! place"}, // ahead of the pointer to none
		{"nilof 1 'T'; placefield 'x'; nil; put; nil", "! nil field x"},
		{"struct 0 'Q'; fresh 0; placeslot 0; placefield 'x'; nil; put; nil", "! nil field x"},
		{"struct 0 'Q'; placefield 'x'; nil; put; nil", "! place"}, // ahead of the pointer on the way
		{"int '1'; struct 0 'T'; map 1; int '1'; placeindex; placefield 'x'; nil; put; nil", "! place"},
		{"int '1'; struct 0 'T'; object; struct 1 'Q T'; map 1; int '1'; placeindex; placefield 'x'; nil; put; nil", "! place"},
		{"map 0; int '1'; placeindex; placefield 'x'; nil; put; nil", "! nil field x"},
	})
}

// What stands there meanwhile is another: the place is the one that was found.
func TestPlacesLaidDownLater(t *testing.T) {
	set := func(what string) string {
		return "struct 0 'T'; fresh 0; placeslot 0; placefield 'x'; " + what + "; store 0; int '1'; put; load 0"
	}
	ask(t, tableOf(t, someTypes), []asked{
		{set("int '5'"), "! place"},
		{set("nil"), "! place"},
		{set("struct 0 'E'"), "! place"},
		{set("struct 0 'T'; object"), "! place"},
		{set("int '9'; struct 1 'T y'"), "T{x: 1, y: 9} T"},
		{"struct 0 'T'; fresh 0; placeslot 0; placefield 'x'; nil; store 0; fetch; put; nil", "! place"},
		{"struct 0 'T'; fresh 0; placeslot 0; placefield 'x'; nil; store 0; placefield 'y'; nil; put; nil", "! place"},
		{"struct 0 'T'; struct 1 'T x'; fresh 0; placeslot 0; placefield 'x'; placefield 'y'; struct 0 'T'; store 0; int '1'; put; nil", "! place"},
		{"struct 0 'T'; struct 1 'T x'; fresh 0; placeslot 0; placefield 'x'; placefield 'y'; struct 0 'T'; struct 1 'T x'; store 0; int '1'; put; load 0", "T{x: T{x: nil, y: 1}, y: nil} T"},
		{"struct 0 'T'; list 1; fresh 0; load 0; int '0'; placeindex; placefield 'x'; load 0; int '0'; placeindex; int '3'; put; int '1'; put; nil", "! place"},
		{"int '1'; list 1; fresh 0; load 0; int '0'; placeindex; list 0; store 0; int '7'; put; load 0", "[] list"},
		{"int '1'; list 1; fresh 0; load 0; fresh 1; load 0; int '0'; placeindex; list 0; store 0; int '7'; put; load 1", "[7] list"},
		{"map 0; fresh 0; load 0; fresh 1; load 0; int '1'; placeindex; map 0; store 0; int '7'; put; load 1", "map{1: 7} map"},
		{"map 0; fresh 0; load 0; int '1'; placeindex; load 0; int '2'; placeindex; nil; put; int '7'; put; load 0", "map{2: nil, 1: 7} map"}, // its order is that in which it is laid down
		{"int '1'; nil; map 1; fresh 0; load 0; int '1'; placeindex; load 0; int '1'; built 2 'delete'; pop; int '7'; put; load 0", "map{1: 7} map"},
		{"struct 0 'T'; object; fresh 0; load 0; placefield 'x'; nil; store 0; int '1'; put; load 0", "nil nil"},
		{"struct 0 'T'; object; struct 1 'Q T'; fresh 0; load 0; select 0 'T'; fresh 1; placeslot 0; placefield 'x'; nil; store 0; int '8'; put; load 1", "&T{x: 8, y: nil} *T"},
	})
}

// What may not stand there.
func TestLaidDownWrong(t *testing.T) {
	ask(t, tableOf(t, someTypes), []asked{
		{"struct 0 'T'; object; placeof; int '1'; put; nil", "! conversion int is not T"},
		{"struct 0 'T'; object; placeof; nil; put; nil", "! conversion nil is not T"},
		{"struct 0 'T'; object; dup; placeof; struct 0 'E'; put; nil", "! conversion E is not T"},
		{"struct 0 'E'; object; dup; placeof; struct 0 'T'; put; nil", "! conversion T is not E"},
		{"struct 0 'E'; fresh 0; placeslot 0; placefield 'T'; int '1'; put; nil", "! conversion int is not T"},
		{"struct 0 'E'; object; placefield 'T'; nil; put; nil", "! conversion nil is not T"},
		{"struct 0 'Q'; fresh 0; placeslot 0; placefield 'T'; struct 0 'T'; put; nil", "! conversion T is not *T"},
		{"struct 0 'Q'; fresh 0; placeslot 0; placefield 'T'; nilof 1 'T'; put; load 0", "Q{T: nil(*T), w: nil} Q"},
		{"struct 0 'V'; fresh 0; placeslot 0; placefield 'P'; int '1'; put; nil", "! conversion int is not P: no m"},
		{"struct 0 'V'; fresh 0; placeslot 0; placefield 'P'; nil; put; load 0", "V{P: nil} V"},
		{"struct 0 'V'; fresh 0; placeslot 0; placefield 'P'; struct 0 'T'; object; put; load 0", "V{P: &T{x: nil, y: nil}} V"},
		{"struct 0 'E'; fresh 0; placeslot 0; placefield 'T'; nil; store 0; nil; put; nil", "! place"}, // ahead of conversion
	})
}

// The pointer of a bound method leads to the part: what is laid down there is seen in the whole.
func TestParts(t *testing.T) {
	ask(t, tableOf(t, someTypes), []asked{
		{"struct 0 'E'; object; fresh 0; load 0; select 0 'set'; fresh 1; load 1; int '4'; call 1; fresh 2; load 2; placefield 'y'; int '5'; put; load 0", "&E{T: T{x: 4, y: 5}, z: nil} *E"},
		{"struct 0 'E'; object; fresh 0; load 0; select 0 'set'; int '4'; call 1; load 0; select 0 'set'; int '4'; call 1; binary '=='", "true bool"},
		{"struct 0 'E'; object; fresh 0; load 0; select 0 'set'; int '4'; call 1; placeof; int '7'; struct 1 'T y'; put; load 0", "&E{T: T{x: nil, y: 7}, z: nil} *E"},
		{"struct 0 'E'; object; fresh 0; load 0; select 0 'set'; int '4'; call 1; unary '*'", "T{x: 4, y: nil} T"},
	})
}
