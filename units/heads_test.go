package units_test

import (
	"fmt"
	"strings"
	"testing"

	"guise/api"
	"guise/units"
)

// withThree are units of which the first one has a source, and b, c and d stand behind it.
func withThree(source string) []units.Unit {
	return of("a", source, "b", "var x = 1", "c", "", "d", "")
}

// What the head of the first one imports is told ahead of it: so one sees what it imports.
func TestHeads(t *testing.T) {
	for _, x := range []struct{ source, want string }{
		{"", "0 1 2 3"},
		{"\n", "0 1 2 3"},
		{" \t ", "0 1 2 3"},
		{"// import b", "0 1 2 3"},
		{" \t//import b\n\timport c", "1 2 0 3"},
		{"import b", "1 0 2 3"},
		{"import b\n", "1 0 2 3"},
		{"import\tb", "1 0 2 3"},
		{"import \t  b\t ", "1 0 2 3"},
		{" import b", "1 0 2 3"},
		{"\t\timport c\t\n", "1 2 0 3"},
		{"import d b", "1 2 3 0"},
		{"import\tb\tc \t d", "1 2 3 0"},
		{"import b\nimport c", "1 2 0 3"},
		{"\n\n\t\n// é \xff\n//\n///\n/// /\n  // import d\nimport c\n \n//\nimport b\n\n", "1 2 0 3"},
		{"import c\nvar x = 1\nimport d", "1 2 0 3"},
		{"import c\nimportd\nimport d", "1 2 0 3"},
		{"import c\n/ / x\nimport d", "1 2 0 3"},
		{"import c\n/\nimport d", "1 2 0 3"},
		{"import c\n;\nimport d", "1 2 0 3"},
		{"import c\n\r\nimport d", "1 2 0 3"},
		{"import c\n\x00\nimport d", "1 2 0 3"},
		{"import c\nIMPORT b\nimport d", "1 2 0 3"},
		{"import c\nimports b\nimport d", "1 2 0 3"},
		{"import c\nx import b\nimport d", "1 2 0 3"},
		{"import c\nimport// d\nimport d", "1 2 0 3"},
		{"import c\nimport;\nimport d", "1 2 0 3"},
		{"import c\nimport\"d\"\nimport d", "1 2 0 3"},
		{"import c\nimport\r\nimport d", "1 2 0 3"},
		{"import c\nimport\x0bd", "1 2 0 3"},
		{"import c\nimport\u00a0d", "1 2 0 3"},
		{"import c\n\u00a0import d", "1 2 0 3"},
		{"importb", "0 1 2 3"},
		{"import_b", "0 1 2 3"},
		{"importimport b", "0 1 2 3"},
		{"func f() { }\nimport b", "0 1 2 3"},
		{"# import b\nimport b", "0 1 2 3"},
	} {
		is(t, fmt.Sprintf("U1: %q", x.source), ordered(t, withThree(x.source)), x.want)
	}
}

// What is wrong with an import is told at its word, counted in the unit's own source.
func TestPlacesOfImports(t *testing.T) {
	for _, x := range []struct {
		code   api.Errno
		name   string
		source string
	}{
		{api.ErrUnit, "", "import~"},
		{api.ErrUnit, "", "import~\n"},
		{api.ErrUnit, "", "import ~"},
		{api.ErrUnit, "", "import \t ~\nimport b"},
		{api.ErrUnit, "", "  \timport\t\t~\n"},
		{api.ErrUnit, "", "\n// é\nimport b\n\timport ~\nvar x = 1"},
		{api.ErrUnit, "", "import~\nimport b b"},
		{api.ErrUnit, "1", "import ~1"},
		{api.ErrUnit, "1", "import b\t~1 c"},
		{api.ErrUnit, "b,", "import ~b, c"},
		{api.ErrUnit, "//", "import b ~// c"},
		{api.ErrUnit, "//c", "import b ~//c"},
		{api.ErrUnit, "\"b\"", "import ~\"b\""},
		{api.ErrUnit, "b;", "import ~b; c"},
		{api.ErrUnit, "b\r", "import ~b\r\nimport c"},
		{api.ErrUnit, "b.c", "import ~b.c"},
		{api.ErrUnit, "b\u00a0c", "import ~b\u00a0c"},
		{api.ErrUnit, "é", "//é\nimport b ~é"},
		{api.ErrUnit, "\xff\xfe", "import b ~\xff\xfe\n"},
		{api.ErrUnit, "b__c", "import ~b__c"},
		{api.ErrUnit, "any", "import ~any"},
		{api.ErrUnit, "_", "import b ~_ c"},
		{api.ErrTwice, "b", "import b ~b"},
		{api.ErrTwice, "b", "import b\nimport ~b"},
		{api.ErrTwice, "b", "import b c d\n//\n\n \timport\t~b"},
		{api.ErrTwice, "c", "import b c d ~c b"},
		{api.ErrTwice, "d", "import d\n// import b\nimport c ~d b c"},
		{api.ErrImport, "a", "import ~a"},
		{api.ErrImport, "a", "import b ~a"},
		{api.ErrImport, "none", "import ~none"},
		{api.ErrImport, "none", "\timport c\n import b\t~none d"},
		{api.ErrImport, "B", "import ~B"},
		{api.ErrImport, "import", "import ~import b"},
		{api.ErrImport, "main", "import ~main"},
	} {
		refused(t, x.code, "a."+x.name, "a", x.source, "b", "var x = 1", "c", "", "d", "")
		refused(t, x.code, "a."+x.name, "a", "// more\n"+x.source, "b", "", "c", "", "d", "import x")
		refused(t, x.code, "a."+x.name, "b", "", "c", "// x", "d", " ", "a", x.source)
	}
}

// The body has blanks where the head was: what stands in it has its place, and a head ends where the first other line begins.
func TestBodies(t *testing.T) {
	for _, head := range []string{"", "\n", "import b\n", " \timport\tb \n\n", "// é\xff\x00 \"\n", "import c b d\n\t\n//var x = 2\n \n"} {
		for _, x := range []struct{ body, want string }{
			{"", ""},
			{"var y = 1", "var y = 1"},
			{"  var y = 1 // import c\n// import d\nvar z = 2\n", "var y = 1\nvar z = 2"},
			{"func f() { \nimport: for { break import }\n}", "func f() { import: for { break import } }"},
			{"var import = 1\nfunc f() { x := import }", "var import = 1\nfunc f() { x := import }"},
			{";", ""},
			{"; // x", ""},
		} {
			want := x.want + "\nvar b__x = 1"
			if strings.Contains(head, "b") {
				want = "var b__x = 1\n" + x.want
			}
			joins(t, withThree(head+x.body), want)
		}
		for _, x := range []struct {
			code       api.Errno
			name, body string
		}{
			{api.ErrByte, "", "~#"}, {api.ErrByte, "", "var y = 1\n ~é"}, {api.ErrByte, "", "~\r\n"}, {api.ErrByte, "", "~\xff"},
			{api.ErrQuote, "", "var y = ~\"a"}, {api.ErrQuote, "", "var y = \"a~\\q\""}, {api.ErrNumber, "", "var y = ~01"},
			{api.ErrLong, "", "var ~" + forty + "e = 1"},
			{api.ErrToken, "y", "~y"}, {api.ErrToken, "import", "var x = 1; ~import b"}, {api.ErrToken, "importa", "~importa"}, {api.ErrToken, "import", "var x = 1\n~import b"},
			{api.ErrToken, "", "var y =~"}, {api.ErrToken, "_", "var ~_ = 1"},
			{api.ErrKind, "m", "protocol P { ~m(13) }"}, {api.ErrMany, "", "func f~(a, b, c, d, e, f, g, h, i, j, k, l, m) { }"},
		} {
			unjoined(t, x.code, "a."+x.name, "a", head+x.body, "b", "", "c", "", "d", "")
		}
	}
}
