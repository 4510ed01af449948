package compile_test

import (
	"fmt"
	"strings"
	"testing"
)

// forms are expressions, with holes (#) for others.
var forms = strings.Split(`-#
!#
^#
*#
# + #
# - #
# * #
# / #
# % #
# & #
# | #
# ^ #
# << #
# >> #
# == #
# != #
# < #
# <= #
# > #
# >= #
# && #
# || #
# && # || #
# || # && !#
[#, #]
[]
map{#: #}
map{#: #, #: #}
P{y: #, x: #}
E{P: #, z: #}
&P{x: #}
&E{Q: #}
#.x
#.sum
#.sum()
#.add(#)
#.add
P.sum
P.sum(#)
(*P).add(#, #)
(*E).sum(#)
P.nobody
#[#]
#[#:#]
#[:#]
#[#:]
#[:]
#[#:#:#]
#[:#:#]
#(#)
#()
note(#)
#.(int)
#.(S)
#.(*P)
#.(any)
K(#)
L(#)
int(#)
float(#)
text(#)
map(#)
bool(#)
len(#)
cap(#)
append(#, #)
append()
copy(#, #)
delete(#, #)
make(#)
show(#)
typeof(#)
print(#, #)
recover()
panic(#)
func() { return # }
func() { return # }()
func(a, b) { return [b, a, #] }(#, #)
func() { defer note(#); return # }()
nil(list)
nil(*P)
nil(map)
nil(func)
true
nil
1.25
"\n"`, "\n")

// atoms are expressions without holes, of each kind.
var atoms = []string{"1", "0", "2", `"ab"`, "true", "false", "nil", "[5, 6, 7]", "map{1: 2}", "P{x: 1, y: 2}", "&P{x: 3}", "note", "0.5", "K(1)", "L([8])", "B(true)", "nil(*P)", "nil(list)", "&E{Q: &Q{S: K(4)}, z: 1}", "&Q{q: 9}", "g1", "here", "there", "taken"}

// filled is a form with each hole filled, in brackets.
func filled(form string, fill func() string) string {
	pieces := strings.Split(form, "#")
	out := pieces[0]
	for _, piece := range pieces[1:] {
		out += "(" + fill() + ")" + piece
	}
	return out
}

// asked plays expressions one by one, each in a function that ends by itself; what they are, and the order of their parts, is told.
func asked(t *testing.T, all []string) {
	t.Helper()
	var pieces []string
	for i, e := range all {
		pieces = append(pieces, fmt.Sprintf("func(here) { defer caught(); print(%d, %s) }([1, 2])", i, e))
	}
	s := world + "var there = map{1: \"g\"}\nfunc t(v) { print(\"t\", v); return v }\nfunc main() { taken := &P{x: 7}; " + strings.Join(pieces, "; ") + " }"
	r := compiled(t, brief(strings.Join(all, "; ")), parsed(t, s))
	whole := r.alike(t, muchFuel, muchDepth)
	r.alike(t, whole.Steps*2/3, muchDepth)
	r.alike(t, muchFuel, 2)
}

// Each form with each atom in its first hole, and others in the others.
func TestFormsOfAtoms(t *testing.T) {
	t.Parallel()
	g := growing(3)
	for _, form := range forms {
		var all []string
		for _, atom := range atoms {
			first := true
			all = append(all, filled(form, func() string {
				if first {
					first = false
					return "t(" + atom + ")"
				}
				return "t(" + g.one(atoms...) + ")"
			}))
		}
		asked(t, all)
	}
}

// Each form within each other one.
func TestFormsWithinForms(t *testing.T) {
	t.Parallel()
	g := growing(4)
	for _, outer := range forms {
		var all []string
		for _, inner := range forms {
			all = append(all, filled(outer, func() string {
				return filled(inner, func() string { return "t(" + g.one(atoms...) + ")" })
			}))
		}
		for len(all) > 0 {
			n := min(len(all), 30)
			asked(t, all[:n])
			all = all[n:]
		}
	}
}

// Forms with the same atom in all holes, which is most likely to fit.
func TestFormsThatFit(t *testing.T) {
	t.Parallel()
	for _, form := range forms {
		var all []string
		for _, atom := range atoms {
			all = append(all, filled(form, func() string { return atom }))
		}
		asked(t, all)
	}
}

// && and || of any depth, with each answer of each part.
func TestLogic(t *testing.T) {
	t.Parallel()
	for _, form := range []string{"# && #", "# || #", "# && # && #", "# || # || #", "# && # || #", "# || # && #", "(# || #) && #", "# && (# || #)", "!(# && #) || !#", "(# && #) || (# && #)", "(# || #) && (# || #)"} {
		holes := strings.Count(form, "#")
		for _, kinds := range [][]string{{"true", "false"}, {"true", "1"}, {"false", "B(true)"}, {"false", "nil"}} {
			var all []string
			for bits := range 1 << holes {
				i := -1
				all = append(all, filled(form, func() string {
					i++
					return "t(" + kinds[bits>>i&1] + ")"
				}))
			}
			asked(t, all)
		}
	}
	deep := "t(true)"
	for i := range 24 {
		deep = fmt.Sprintf("(%s %s t(%v))", deep, []string{"&&", "||"}[i%2], i%3 == 0)
	}
	asked(t, []string{deep, strings.Repeat("t(true) && ", 30) + "t(false)", strings.Repeat("t(false) || ", 30) + "t(1)"})
}
