package certain_test

import (
	"fmt"
	"strconv"
	"strings"
	"testing"

	"guise/api"
	"guise/certain"
)

// ring writes n pieces, each of which speaks of the next one: form has the number, and the next one's.
func ring(n int, form string) string {
	var out strings.Builder
	for i := range n {
		fmt.Fprintln(&out, strings.NewReplacer("#", strconv.Itoa(i), "@", strconv.Itoa((i+1)%n)).Replace(form))
	}
	return out.String()
}

func startOf(sets [][]string) string { return strings.Join(sets[0], " ") }

// Sets that come to their end only after many rounds, whichever way around they stand.
func TestRings(t *testing.T) {
	for _, n := range []int{1, 2, 3, 10, 60} {
		last := strconv.Itoa(n - 1)
		for _, form := range []string{"var v# = v@", "var v@ = v#"} {
			n := parsed(t, ring(n, form)+"func main() { v"+last+" = 1; v0 = \"t\" }")
			_, sets, _ := certain.Types(n)
			for _, s := range sets {
				is(t, "Z1", strings.Join(s, " "), "int nil text")
			}
			asTheModel(t, n, form)
		}
		for _, form := range []string{
			"func f#(x) { if x { return f@(x) }; return x }", "func f@(x) { if x { return f#(x) }; return x }",
			"func f#(x) { g := f@; return g(x) }", "func f#(x) { f@(x); return recover() }",
		} {
			n := parsed(t, "var a = nil\nfunc main() { a = f0(f"+last+"(1.5)); f0(\"t\"); panic(true) }\n"+ring(n, form))
			asTheModel(t, n, form)
			_, sets, _ := certain.Types(n)
			must := "float nil text"
			if strings.Contains(form, "recover") {
				must = "*fault bool nil"
			} else if strings.Contains(form, "g(x)") {
				must = "nil text" // Error of fault may be called so, too
			}
			is(t, form, startOf(sets), must)
		}
	}
	// Fields, one laid into the next one; only thirty of a struct type.
	for _, form := range []string{"t.x# = t.x@", "t.x@ = t.x#"} {
		s := "type T struct { " + strings.ReplaceAll(ring(30, "x#"), "\n", ";") + " }\nvar a = nil\nfunc main() { t := T{x7: 1}; a = t.x22\n" + ring(30, form) + "}"
		n := parsed(t, s)
		_, sets, _ := certain.Types(n)
		is(t, s, startOf(sets), "int nil")
		asTheModel(t, n, s)
	}
}

// A chain at whose end something is found that lets something new in at its beginning, again and again.
func TestManyTurns(t *testing.T) {
	const turns, links = 25, 400
	var s strings.Builder
	for i := range turns {
		fmt.Fprintf(&s, "type T%d struct { .T%d }\n", i, i+1)
	}
	fmt.Fprintf(&s, "type T%d struct { }\nvar v%d = T0{}\n", turns, 0)
	for i := range links {
		fmt.Fprintf(&s, "var v%d = v%d\n", i+1, i)
	}
	s.WriteString("func main() {\n")
	for i := range turns {
		fmt.Fprintf(&s, "v0 = v%d.T%d\n", links, i+1)
	}
	s.WriteString("}\n")
	_, sets, err := certain.Types(parsed(t, s.String()))
	if err != nil {
		t.Fatal(err)
	}
	for _, set := range sets {
		if len(set) != turns+2 {
			t.Fatalf("Z1: %v", set)
		}
	}
}

// As much as a program may hold: nodes, types, nodes within one another, parts of a call.
func TestGreatPrograms(t *testing.T) {
	const many = 3300
	var chain strings.Builder
	for i := range many {
		fmt.Fprintf(&chain, "var v%d=v%d\n", i, i+1)
	}
	n := parsed(t, chain.String()+fmt.Sprintf("var v%d=1\nfunc main(){}", many))
	_, sets, err := certain.Types(n)
	if err != nil || startOf(sets) != "int nil" {
		t.Errorf("Z1: a chain of %d: %v, %v", many, sets[0], err)
	}
	// All types that there can be, each in one set.
	var types, uses strings.Builder
	for i := range api.MaxTypes {
		fmt.Fprintf(&types, "type Type%03d struct { }\n", i)
		fmt.Fprintf(&uses, "a = Type%03d{}; a = &Type%03d{}\n", i, i)
	}
	n = parsed(t, "var a = [1, 1.5, \"t\", true, [], map{}, main, fault{}, &fault{}][0]\n"+types.String()+"func main() {\n"+uses.String()+"print(a.(any), a.(Type099), a.(*Type000)) }")
	_, sets, err = certain.Types(n)
	if err != nil || len(sets[0]) != 2*api.MaxTypes+10 || sets[0][0] != "*Type000" || sets[0][1] != "*Type001" || sets[0][100] != "*fault" || sets[0][101] != "Type000" || sets[0][len(sets[0])-1] != "text" {
		t.Errorf("Z1: all types: %v, %v", sets, err)
	}
	asTheModel(t, n, "all types")
	// As deep as a tree may be.
	deep := strings.Repeat("[", 50) + "1.5" + strings.Repeat("]", 50)
	want(t, "var a = "+deep+strings.Repeat("[0]", 5)+"\nfunc main() { }", "a: float list nil | ")
	calls := "true(" + strings.TrimSuffix(strings.Repeat("1, ", 5000), ", ") + ")"
	want(t, "var a = nil\nfunc main() { "+calls+"; a = "+calls+" }", "a: nil | ")
}

// Each lies beneath a limit in what it is, and costs no more than that.
func TestManyOfAll(t *testing.T) {
	var s strings.Builder
	for i := range 1200 {
		fmt.Fprintf(&s, "func f%d(x) { y := f%d; return y(x) }\n", i, (i+7)%1200)
	}
	n := parsed(t, s.String()+"func main() { f0(1) }")
	if _, _, err := certain.Types(n); err != nil {
		t.Error(err)
	}
}
