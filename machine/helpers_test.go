package machine_test

import (
	"errors"
	"fmt"
	"math/rand/v2"
	"slices"
	"strconv"
	"strings"
	"sync"
	"testing"

	"guise/api"
	"guise/code"
	"guise/compile"
	"guise/machine"
	"guise/parse"
	"guise/types"
)

var endNames = []string{"none", "done", "panic", "spent", "overflow", "full"}

// told writes an error: a Wrong's code, place and name; a panic's value and cause; "ok" if it is nil itself.
func told(err error) string {
	var f *api.Fault
	switch e := err.(type) {
	case nil:
		return "ok"
	case *api.Wrong:
		if e == nil || !errors.Is(err, e.Code) {
			return "an error without its code"
		}
		return strings.TrimSpace(fmt.Sprint(int(e.Code), " ", e.At, " ", e.Name))
	case *api.Panicked:
		if errors.As(err, &f) {
			return strings.TrimSpace(f.Word + " " + f.More)
		}
		return e.Shown
	}
	return "an error of another type"
}

func brief(s string) string {
	if len(s) > 2500 {
		return s[:2500] + fmt.Sprintf(".. (%d bytes)", len(s))
	}
	return s
}

// ended writes what a Run answered: how it ended, the steps, the lines, and the panic, if there was one.
func ended(o api.Outcome, err error) string {
	out := fmt.Sprint(endNames[o.End], " ", o.Steps)
	for _, line := range o.Out {
		out += " | " + line
	}
	if err != nil {
		out += " ! " + told(err)
	}
	return out
}

func is(t testing.TB, what, got, must string) {
	t.Helper()
	if got != must {
		t.Errorf("%s: %s\nmust be %s", what, brief(got), brief(must))
	}
}

var opNames = func() map[string]code.Op {
	out := map[string]code.Op{}
	names := "step tick int float text bool nil nilof load global taken fresh store storeglobal storetaken pop dup unary binary truth convert select expression index indextwo slice list map struct object literal assert holds jump branch and or placeslot placeglobal placetaken placeof placeindex placefield fetch put call built defer deferbuilt return turn next drop"
	for i, name := range strings.Fields(names) {
		out[name] = code.OpStep + code.Op(i)
	}
	return out
}()

func opName(o code.Op) string {
	for name, one := range opNames {
		if one == o {
			return name
		}
	}
	return fmt.Sprint("op", int(o))
}

// asm reads instructions, as the chapters write them: a name, then A, `/` and B, `@` and At, and a text in marks; `;` between.
func asm(s string) []code.Inst {
	var out []code.Inst
	for _, part := range strings.Split(s, ";") {
		part = strings.TrimSpace(part)
		if part == "" {
			continue
		}
		head, text, _ := strings.Cut(part, "'")
		in := code.Inst{Text: strings.TrimSuffix(text, "'")}
		for i, word := range strings.Fields(head) {
			switch {
			case i == 0:
				in.Op = opNames[word]
			case word[0] == '/':
				in.B = digits(word[1:])
			case word[0] == '@':
				in.At = digits(word[1:])
			default:
				in.A = digits(word)
			}
		}
		out = append(out, in)
	}
	return out
}

func digits(s string) int {
	n, err := strconv.Atoi(s)
	if err != nil {
		panic(err)
	}
	return n
}

// begins is a program of one function, with slots.
func begins(s string) code.Program {
	return code.Program{Globals: []string{"g", "h"}, Funcs: []code.Func{{Slots: 4, Around: -1, Code: asm(s)}}}
}

// with has functions more: `name params slots around: taken ..: code`.
func with(p code.Program, funcs ...string) code.Program {
	for _, s := range funcs {
		parts := strings.SplitN(s, ":", 3)
		words := strings.Fields(parts[0])
		f := code.Func{Name: words[0], Params: digits(words[1]), Slots: digits(words[2]), Around: digits(words[3]), Code: asm(parts[2])}
		for _, word := range strings.Fields(parts[1]) {
			f.Taken = append(f.Taken, digits(word))
		}
		p.Funcs = append(p.Funcs, f)
	}
	return p
}

// written writes any program, right or not.
func written(p code.Program) string {
	var out strings.Builder
	fmt.Fprintf(&out, "%q\n", p.Globals)
	for k, f := range p.Funcs {
		fmt.Fprintf(&out, "%d: %q %d %d %v %d\n", k, f.Name, f.Params, f.Slots, f.Taken, f.Around)
		for i, in := range f.Code {
			fmt.Fprintf(&out, "\t%d: %s %d /%d %q @%d\n", i, opName(in.Op), in.A, in.B, in.Text, in.At)
		}
	}
	return out.String()
}

// apart is a program in memory of its own.
func apart(p code.Program) code.Program {
	out := code.Program{Globals: slices.Clone(p.Globals)}
	for _, f := range p.Funcs {
		f.Taken, f.Code = slices.Clone(f.Taken), slices.Clone(f.Code)
		out.Funcs = append(out.Funcs, f)
	}
	return out
}

// tableOf is the table of types of a program's text, to which a main may be lacking.
func tableOf(t testing.TB, s string) *types.Table {
	t.Helper()
	if !strings.Contains(s, "func main()") {
		s += "\nfunc main() { }"
	}
	n, err := parse.Program(s)
	if err != nil {
		t.Fatalf("%v: %s", err, brief(s))
	}
	table, err := types.Make(n)
	if err != nil {
		t.Fatalf("%v: %s", err, brief(s))
	}
	return table
}

// noTypes is a table without types but those that are there from the beginning.
var noTypes = sync.OnceValue(func() *types.Table {
	n, _ := parse.Program("func main() { }")
	table, _ := types.Make(n)
	return table
})

// made is a machine that must be taken.
func made(t testing.TB, p code.Program, table *types.Table, depth int) *machine.Machine {
	t.Helper()
	m, err := machine.New(p, table, depth)
	if err != nil || m == nil {
		t.Fatalf("P16.1: a machine is refused: %v\n%s", err, brief(written(p)))
	}
	return m
}

// compiled is the code of a program's text, and its table.
func compiled(t testing.TB, s string) (code.Program, *types.Table) {
	t.Helper()
	p, err := compile.Text(s)
	if err != nil {
		t.Fatalf("%v: %s", err, brief(s))
	}
	return p, tableOf(t, s)
}

// ofText is a machine of a program's text.
func ofText(t testing.TB, s string, depth int) *machine.Machine {
	t.Helper()
	p, table := compiled(t, s)
	return made(t, p, table, depth)
}

// saved is what Save says, which must be no error.
func saved(t testing.TB, m *machine.Machine) string {
	t.Helper()
	b, err := m.Save()
	if err != nil || b == "" {
		t.Fatalf("P16.4: Save: %v, %d bytes", err, len(b))
	}
	return b
}

// loaded is the machine of what Save said.
func loaded(t testing.TB, b string, p code.Program, table *types.Table) *machine.Machine {
	t.Helper()
	m, err := machine.Load(b, p, table)
	if err != nil || m == nil {
		t.Fatalf("P16.4: Load: %v\n%s", err, brief(written(p)))
	}
	return m
}

func dice(seed uint64) *rand.Rand { return rand.New(rand.NewPCG(seed, 16)) }

func oneOf[T any](r *rand.Rand, all ...T) T { return all[r.IntN(len(all))] }

func parsed(t testing.TB, s string) api.Node {
	t.Helper()
	n, err := parse.Program(s)
	if err != nil {
		t.Fatalf("%v: %s", err, brief(s))
	}
	return n
}

func compiledOf(s string) (code.Program, error) { return compile.Text(s) }
