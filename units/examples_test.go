package units_test

import (
	"testing"

	"guise/api"
)

// The examples at the chapter's end.
func TestExamples(t *testing.T) {
	one := of("main", "import math\nfunc main() { print(math.twice(2)) }", "math", "var n = 2\nfunc twice(x) { return x * n }")
	is(t, "1: Order", ordered(t, one), "1 0")
	joins(t, one, "var math__n = 2\nfunc math__twice(x) { return x * math__n }\nfunc main() { print(math__twice(2)) }")

	refused(t, api.ErrImport, "a", "a", "import b", "b", "import a")
	refused(t, api.ErrTwice, "main.a", "main", "import a ~a", "a", "")
	refused(t, api.ErrUnit, "main.", "main", "import~")
	refused(t, api.ErrImport, "main.main", "main", "import ~main")
	unjoined(t, api.ErrToken, "main.importa", "main", "~importa")

	three := "type S struct { x }\ntype T struct { .S }\nfunc f(t) { return t.S.x }"
	joins(t, of("main", "", "b", three), "type b__S struct { x }\ntype b__T struct { .b__S }\nfunc b__f(t) { return t.b__S.x }")
	unjoined(t, api.ErrUnit, "b.S", "main", "", "b", three+"\ntype U struct { ~S }")

	a := "var x = 1"
	joins(t, of("main", "import a\nfunc f(a) { return a.x }", "a", a), "var a__x = 1\nfunc f(a) { return a.x }")
	joins(t, of("main", "import a\nfunc g() { a := a.x; return a.x }", "a", a), "var a__x = 1\nfunc g() { a := a__x; return a.x }")
	unjoined(t, api.ErrTwice, "main.a", "main", "import a\n~var a = 1", "a", a)
	unjoined(t, api.ErrUnknown, "main.none", "main", "import a\nvar b = a~.none", "a", a)
}
