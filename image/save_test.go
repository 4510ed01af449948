package image_test

import (
	"fmt"
	"strings"
	"testing"

	"guise/api"
	"guise/compile"
	"guise/image"
	"guise/machine"
)

// unfit are sources that can't be compiled, each for a reason of its own, with what is told of it.
func unfit() map[string]string {
	many := "func main() { switch 1 { case 2" + strings.Repeat(",2", 16000) + ": } }"
	return map[string]string{
		"":                           "44 0",
		"func main( { }":             "30 11 {",
		"func main() { x }":          "30 16 }",
		"func main() { $ }":          "10 14",
		"func main() { print(\"a) }": "11 20",
		"func main() { print(99999999999999999999) }": "12 20",
		"func f() { }":                                 "44 0",
		"func main() { return x }":                     "41 21 x",
		"func main() { }\nfunc main() { }":             "40 16 main",
		"type T struct { .T }\nfunc main() { }":        "51 0 T",
		"func main() { break }":                        "43 14",
		"func main() { }" + strings.Repeat(" ", 59986): "13 60000",
		many: "22 0",
	}
}

// What compile.Text tells of the source comes first, whatever the machine is.
func TestSaveOfASourceThatCantBe(t *testing.T) {
	m := made(t, least, 5, 1)
	for s, must := range unfit() {
		_, err := compile.Text(s)
		if err == nil {
			t.Errorf("it can be compiled: %s", brief(s))
			continue
		}
		if must[:2] != told(err)[:2] {
			t.Errorf("it is refused by %s, must be %s: %s", told(err), must, brief(s))
		}
		wantNotSaved(t, brief(s), m, s, told(err))
		wantNotSaved(t, "of no machine, "+brief(s), nil, s, told(err))
	}
}

// Of what is no machine nothing can be said; the source is asked first.
func TestSaveOfNoMachine(t *testing.T) {
	wantNotSaved(t, "of nil", nil, least, "190 0")
	wantNotSaved(t, "of a machine that no call gave out", &machine.Machine{}, least, "190 0")
	wantNotSaved(t, "of nil", nil, "func main( { }", "30 11 {")
	wantNotSaved(t, "of a machine that no call gave out", &machine.Machine{}, "func main( { }", "30 11 {")
}

// A machine is saved with its own source alone, at each point of its run.
func TestSaveWithAnotherSource(t *testing.T) {
	all := playable()
	for i, s := range all {
		for _, pieces := range [][]int{{}, {1}, {20}, {5000}} {
			m := made(t, s, 9, pieces...)
			for k, other := range all {
				if k != i {
					wantNotSaved(t, fmt.Sprint("the source ", k, " of ", i), m, other, "190 0")
				}
			}
			wantNotSaved(t, "with a blank ahead", m, " "+s, "190 0")
			wantNotSaved(t, "with a variable more", m, s+"\nvar more = 1", "190 0")
			wantNotSaved(t, "with a function more", m, s+"\nfunc more() { }", "190 0")
			saved(t, m, s)
		}
	}
}

// Sources of one and the same code and types are all the machine's own: the one that was handed in is kept.
func TestSaveWithASourceOfTheSameCode(t *testing.T) {
	s := "func main() { x := [1]; for i in x { print(i, x) } }"
	m := made(t, s, 5, 4)
	whole := ended(made(t, s, 5).Run(99))
	for _, other := range []string{
		s,
		s + " // a remark",
		s + "\n\n",
		"func main() { y := [1]; for i in y { print(i, y) } }",
	} {
		b := saved(t, m, other)
		is(t, "P19.1", b, sealed(unsealed(other, ownBytes(t, m))))
		is(t, "P19.5", ended(loaded(t, b, other).Run(99)), whole)
	}
}

// Where the code is the same and the types are not, machine.Load says whether m is one of that program's.
func TestSaveWithOtherTypes(t *testing.T) {
	s := "type T struct { a; b }\nvar g = T{}\nfunc main() { for { } }"
	taken, refused := 0, 0
	for _, other := range []string{
		"type T struct { c; d }\nvar g = T{}\nfunc main() { for { } }",
		"type T struct { abcd }\nvar g = T{}\nfunc main() { for { } }",
		"type T struct { a;.T }\nvar g = T{}\nfunc main() { for { } }",
		"type T struct { a;b;}; \nvar g = T{}\nfunc main() { for { } }",
	} {
		if _, err := compile.Text(other); err != nil {
			continue
		}
		for _, pieces := range [][]int{{}, {3}} {
			m := made(t, s, 5, pieces...)
			p, table := compiled(t, other)
			if _, err := machine.Load(ownBytes(t, m), p, table); err != nil {
				wantNotSaved(t, other, m, other, "190 0")
				refused++
				continue
			}
			is(t, "P19.1", saved(t, m, other), sealed(unsealed(other, ownBytes(t, m))))
			taken++
		}
	}
	if taken < 3 || refused < 1 {
		t.Errorf("%d were taken, %d refused", taken, refused)
	}
}

// m is as it was: it says the same of itself, and goes on as one that was not saved; whoever watches it is told all of it.
func TestSaveLeavesTheMachine(t *testing.T) {
	for _, s := range playable() {
		a, b := made(t, s, 9), made(t, s, 9)
		var ofA, ofB []api.Event
		a.Watch(func(e api.Event) { ofA = append(ofA, e) })
		b.Watch(func(e api.Event) { ofB = append(ofB, e) })
		for i := range 40 {
			before := ownBytes(t, b)
			first := saved(t, b, s)
			image.Save(b, "func main( { }")
			image.Save(b, least+" ")
			is(t, "P19.1: Save again", saved(t, b, s), first)
			is(t, "P19.1: what m says of itself", ownBytes(t, b), before)
			if a.Things() != b.Things() || a.Over() != b.Over() {
				t.Fatalf("P19.1: m is another one behind Save: %d things; must be %d", b.Things(), a.Things())
			}
			if i%3 == 0 && a.Collect() != b.Collect() {
				t.Fatal("P19.1: m forgets others behind Save")
			}
			is(t, "P19.1: m goes on", ended(b.Run(i)), ended(a.Run(i)))
		}
		is(t, "P19.1: what is told of m", fmt.Sprint(ofB), fmt.Sprint(ofA))
	}
}
