package compile_test

import (
	"fmt"
	"strings"
	"testing"
)

// nest is a loop or a switch, written with its label (#) and what stands in it (@).
type nest struct {
	s    string
	loop bool
}

var nests = []nest{
	{`c# := 0; #: for c# < 2 { c#++; @ }`, true},
	{`c# := 0; #: for { c#++; if c# > 2 { break }; @ }`, true},
	{`#: for k#, v# in [7, 8] { print("#", k#, v#); @ }`, true},
	{`#: for _ in map{1: 2, 3: 4} { @ }`, true},
	{`#: switch n % 3 { case 5: print("never"); case 0, 1: @; fallthrough; case 6: print("#", "through"); default: print("#", "default"); @ }`, false},
	{`#: switch { default: print("#", "none"); case n > 99: print("never"); case n < 9, true: @ }`, false},
	{`#: switch t# := [n][0].(type) { case nil, text: print("never"); case *fault, any: print("#", t#); @ }`, false},
}

// within writes the nests into one another, and what stands innermost.
func within(all []nest, inmost string) string {
	if len(all) == 0 {
		return inmost
	}
	label := string(rune('A' + len(all)))
	inner := fmt.Sprintf("print(%q); %s; print(%q)", "in "+label, within(all[1:], inmost), "on "+label)
	return strings.NewReplacer("#", label, "@", inner).Replace(all[0].s) + fmt.Sprintf("; print(%q)", "behind "+label)
}

// leavings are all ways out of what stands around.
func leavings(all []nest) []string {
	out := []string{"break", "return", "return n", "panic(n)", "defer print(\"late\", n)", "n = nil"}
	for i, a := range all {
		label := string(rune('A' + len(all) - i))
		out = append(out, "break "+label)
		if a.loop {
			out = append(out, "continue "+label)
		}
	}
	for _, a := range all {
		if a.loop {
			return append(out, "continue")
		}
	}
	return out
}

// Loops, switches and type switches within one another, three of them, each way out of them, at the first time and at a later one.
func TestNests(t *testing.T) {
	t.Parallel()
	for _, a := range nests {
		for _, b := range nests {
			for _, c := range nests {
				all := []nest{a, b, c}
				for i, leave := range leavings(all) {
					inmost := fmt.Sprintf(`n++; if n == %d { %s }; print("n", n)`, 1+i%3, leave)
					s := "var n = 0\nfunc f() { " + within(all, inmost) + " }\nfunc main() { defer func() { print(recover(), n) }(); print(f()) }"
					r := compiled(t, s, parsed(t, s))
					whole := r.alike(t, muchFuel, muchDepth)
					r.alike(t, whole.Steps/2, 2)
				}
			}
		}
	}
}

// A way out alone, with nothing behind it that could be come to, and as the last thing in a function.
func TestBareLeavings(t *testing.T) {
	t.Parallel()
	for _, a := range nests {
		for _, b := range nests {
			all := []nest{a, b}
			for _, leave := range leavings(all) {
				s := "var n = 0\nfunc main() { " + within(all, "n++; "+leave) + " }"
				r := compiled(t, s, parsed(t, s))
				r.everyFuel(t, r.alike(t, 60, muchDepth))
			}
		}
	}
}

// Nests as deep as a tree can be, left from within at once.
func TestDeepNests(t *testing.T) {
	t.Parallel()
	for _, leave := range []string{"break L", "continue L", "return", "break", "continue", "panic(1)"} {
		for _, one := range []string{"for _ in 2 { @ }", "for { @; break }", "for i, j in map{1: 2} { @ }"} {
			s := leave
			for range 22 {
				s = strings.Replace(one, "@", s, 1)
			}
			s = "func main() { L: for x in 2 { print(x); " + s + " }; print(\"end\") }"
			r := compiled(t, s, parsed(t, s))
			whole := r.alike(t, 500, muchDepth)
			r.everyFuel(t, whole)
		}
	}
}
