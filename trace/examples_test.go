package trace_test

import (
	"fmt"
	"testing"

	"guise/trace"
)

func TestExamples(t *testing.T) {
	l := ran(t, "func main() { f(); f() }\nfunc f() { print(1) }", 100, 10)
	is(t, "example 1: Kinds", kinds(l), "2 1 2 1 7 3 1 2 1 7 3 3")
	is(t, "example 1: Calls", trace.Calls(l), "1 main\n2 f\n2 f\n")
	l = ran(t, "func main() { f() }\nfunc f() { panic(\"x\") }", 100, 10)
	is(t, "example 2: Calls", trace.Calls(l), "1 main !\n2 f !\n")
	is(t, "example 3: Differ", fmt.Sprint(trace.Differ(events("1@5 1@9"), events("1@5")), trace.Differ(nil, nil)), "1 -1")
	is(t, "example 3: Lines", fmt.Sprint(trace.Lines("a\nb", events("1@0 1@1 1@2 1@3 1@4 1@-1"))), "[2 2]")
	is(t, "example 3: Lines of nothing", fmt.Sprint(trace.Lines("", events("1@0"))), "[1]")
}

// Chapter 12's example, to the last place and text, in both ways.
func TestExampleOfWalk(t *testing.T) {
	l := ran(t, "func f() { defer g(); panic(\"x\") }\nfunc g() { print(recover()) }\nfunc main() { print(f()) }", 100, 10)
	is(t, "W2", texts(l), `2@0:main 1@79 2@86:f 1@11 4@11 1@22 5@22:"x" 2@11:g 1@46 6@46:"x" 7@46:x 3@11:g 3@86:f 7@79:nil 3@0:main`)
	is(t, "R4", trace.Calls(l), "1 main\n2 f\n3 g\n")
	is(t, "R3", fmt.Sprint(trace.Lines("func f() { defer g(); panic(\"x\") }\nfunc g() { print(recover()) }\nfunc main() { print(f()) }", l)), "[2 1 1]")
}
