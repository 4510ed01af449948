package compile_test

import (
	"fmt"
	"strings"
	"testing"
)

// spots are forms of places: of variables of each kind, elements, keys, fields, through pointers; and what looks like one.
var spots = strings.Split(`own
taken
far
g
own.x
taken.x
far.x
g.x
own.P
own.P.x
own.P.x.y
own.Q
own.Q.q
own.Q.S
own.q
own.z
own.z.x
own.nobody
own.sum
own[0]
taken[0]
own[1].x
own[t(1)]
own[t(9)]
own["a"]
own["a"].x
own["new"]
own[t(own)]
own[[1]]
own[0][0]
own[0].x.y
*own
*taken
(*own).x
(*own).P.x
*own.Q
(*own.Q).q
t(own).x
t(own)[0]
*t(own)
t(own).P.x
t(&P{x: 1}).x
[P{x: 1}][0].x
[1][0]
map{1: P{}}[1].x
map{1: &P{}}[1].x
P{x: 1}.x
(&P{x: 1}).x
"ab"[0]
"ab"[0].x
1[0]
nil.x
nil[0]
true.x
note.x
P.sum
P.sum.x
P.sum[0]
(*E).self
(*E).self.x
*P.sum
own.(*E).P.x
own.(*E).x
func() { return own }().x`, "\n")

// holders are what a place is looked for in.
var holders = []string{"1", "nil", `"ab"`, "P{x: 1, y: 2}", "&P{x: 1}", "nil(*P)", "[P{x: 3}, P{}]", "[[1], &P{}]", `map{"a": P{x: 1}, 1: 5}`, "nil(map)", "nil(list)", "E{P: P{x: P{}}, Q: &Q{q: 4}}", "&E{P: P{x: 1}, Q: &Q{q: 4, S: K(1)}, z: P{x: 2}}", "&E{z: 1}", "note", "B(true)"}

// laid are what is laid down there.
var laid = []string{"1", "nil", `"t"`, "P{x: 5}", "&P{}", "&Q{}", "K(3)", "E{}", "[1]"}

// assigned plays statements over each form of a place, in a function that ends by itself, and tells what stands there then.
func assigned(t *testing.T, statement func(spot string) string) {
	t.Helper()
	for i, holder := range holders {
		var pieces []string
		for j, spot := range spots {
			pieces = append(pieces, fmt.Sprintf(`func(own) { g = own; taken, far = own, own; func() { defer func() { print(%d, recover(), own, taken, far, g) }(); %s }() }(%s)`, j, statement(spot), holder))
			pieces[j] = strings.Replace(pieces[j], "taken, far = own, own", "taken = own; far = own", 1)
		}
		s := world + "var g = 0\nfunc t(v) { print(\"t\", v); return v }\nfunc main() { far := 1; func() { taken := 1; " + strings.Join(pieces, "; ") + " }() }"
		r := compiled(t, brief(statement("#")+" "+holders[i]), parsed(t, s))
		whole := r.alike(t, muchFuel, muchDepth)
		r.alike(t, whole.Steps/2, muchDepth)
	}
}

func TestAssigned(t *testing.T) {
	t.Parallel()
	for _, v := range laid {
		assigned(t, func(spot string) string { return spot + " = t(" + v + ")" })
	}
}

func TestAssignedWith(t *testing.T) {
	t.Parallel()
	for _, op := range strings.Fields("+= -= *= /= %= &= |= ^= <<= >>=") {
		assigned(t, func(spot string) string { return spot + " " + op + " t(3)" })
	}
	assigned(t, func(spot string) string { return spot + ` += t("x")` })
	assigned(t, func(spot string) string { return spot + " /= t(0)" })
}

func TestStepped(t *testing.T) {
	t.Parallel()
	for _, op := range []string{"++", "--"} {
		assigned(t, func(spot string) string { return spot + op })
	}
}

// What stands around a field becomes something else while the value is worked out.
func TestAssignedMeanwhile(t *testing.T) {
	t.Parallel()
	for _, change := range []string{"nil", "1", "Q{}", "P{x: 9}", "&P{x: 9}", "[1]", "E{}"} {
		assigned(t, func(spot string) string {
			return spot + " = func() { own = " + change + "; taken = own; far = own; g = own; return 5 }()"
		})
		assigned(t, func(spot string) string {
			return spot + " += func() { own = " + change + "; taken = own; far = own; g = own; return 5 }()"
		})
	}
}

// Two values: to new variables, and to variables that lie here, one, two functions out, and in the program; to one and the same.
func TestTwoValues(t *testing.T) {
	t.Parallel()
	variables := []string{"own", "other", "taken", "far", "g"}
	for _, e := range []string{"t(own).(P)", "t(own).(*P)", "t(own).(S)", "t(own).(any)", "t(own)[t(1)]", "t(own)[t(own)]", `t(own)["a"]`, "t(own)[t(nil)]"} {
		for _, holder := range holders {
			var pieces []string
			tell := "print(recover(), own, other, taken, far, g)"
			for _, a := range variables {
				for _, b := range variables {
					pieces = append(pieces, fmt.Sprintf("func(own) { other := 0; taken = 1; far = 2; g = 3; defer func() { %s }(); %s, %s = %s; %s }(%s)", tell, a, b, e, tell, holder))
				}
			}
			pieces = append(pieces, fmt.Sprintf("func(own) { other := 0; defer func() { %s }(); { own, far := %s; print(own, far); func() { far = own; own = 7 }(); print(own, far) }; x, y := %s; print(x, y) }(%s)", tell, e, e, holder))
			s := world + "var g = 0\nfunc t(v) { print(\"t\", v); return v }\nfunc main() { far := 1; func() { taken := 1; " + strings.Join(pieces, "; ") + " }() }"
			compiled(t, e+" of "+holder, parsed(t, s)).alike(t, muchFuel, muchDepth)
		}
	}
	wantRows(t, "", []row{
		{"x := 1; x, x = x.(int); print(x)", "done: true"},
		{"x := 1; x, x = x.(text); print(x)", "done: false"},
		{"x := map{1: 5}; x, x = x[1]; print(x)", "done: true"},
		{"x := map{1: 5}; y := 0; x, y = x[1]; print(x, y); y, x = map{}[1]; print(x, y)", "done: 5 true|false nil"},
		{"x := 1; func() { x, x = x.(int) }(); print(x); func() { y := 0; y, x = x.(any); print(y, x); x, y = x.(int); print(y, x) }()", "done: true|true true|false nil"},
		{"x, ok := 1.(int); { ok, x := x.(text); print(ok, x) }; print(x, ok)", "done: nil false|1 true"},
		{"x, ok := [1][0]", "panic: <operand|[] list int>"},
	})
}
