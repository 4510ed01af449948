package trace_test

import (
	"fmt"
	"math"
	"slices"
	"strings"
	"testing"

	"guise/api"
	"guise/trace"
)

// wantCalls holds what is written against what must be, with ` | ` for line feeds, and against the second reading.
func wantCalls(t testing.TB, l []api.Event, must string) {
	t.Helper()
	if must != "" {
		must = strings.ReplaceAll(must, " | ", "\n") + "\n"
	}
	is(t, "R4: "+brief(texts(l)), trace.Calls(l), must)
	is(t, "R4: the second reading of "+brief(texts(l)), callsText(l), must)
}

func TestCalls(t *testing.T) {
	for _, c := range []struct{ l, must string }{
		{"", ""},
		{"1@0 4@1 5@2:a 6@3 7@4:b 0@0 8@0 -1@0", ""},
		{"2@0:main", "1 main !"},
		{"2@0:main 3@0:main", "1 main"},
		{"3@0:main", ""},
		{"3@0:main 2@0:main", "1 main !"},
		{"2@0:main 3@0:main 3@0:main", "1 main"},
		{"2@0:main 3@1:main", "1 main !"},
		{"2@0:main 3@0:Main", "1 main !"},
		{"2@0:main 3@0", "1 main !"},
		{"2@0:a 2@1:b 3@1:b 3@0:a", "1 a | 2 b"},
		{"2@0:a 3@0:a 2@1:b 3@1:b", "1 a | 1 b"},
		{"2@0:a 2@1:b 2@2:c 3@0:a", "1 a | 2 b ! | 3 c !"},                                       // the outermost ends
		{"2@0:a 2@1:b 2@2:c 3@1:b 2@3:d 3@0:a", "1 a | 2 b | 3 c ! | 2 d !"},                     // one between
		{"2@0:a 2@1:b 3@0:a 3@1:b", "1 a | 2 b !"},                                               // what was left is open no more
		{"2@0:a 2@1:b 3@0:a 2@1:b 3@1:b", "1 a | 2 b ! | 1 b"},                                   // and is not ended by another one's end
		{"2@0:a 2@1:b 3@0:a 2@0:a 3@1:b 3@0:a", "1 a | 2 b ! | 1 a"},                             //
		{"2@0:f 2@0:f 2@0:f 3@0:f", "1 f ! | 2 f ! | 3 f"},                                       // the innermost of three alike
		{"2@0:f 2@0:f 3@0:f 3@0:f", "1 f | 2 f"},                                                 //
		{"2@0:f 2@0:f 3@0:f 2@0:f 3@0:f", "1 f ! | 2 f | 2 f"},                                   //
		{"2@0:f 2@1:g 2@0:f 2@1:g 3@0:f 3@0:f", "1 f | 2 g ! | 3 f | 4 g !"},                     // alike ones with others between
		{"2@0:f 2@1:g 2@0:f 2@1:g 3@1:g 3@1:g", "1 f ! | 2 g | 3 f ! | 4 g"},                     //
		{"2@0:f 2@1:g 2@0:f 2@1:g 3@1:g 3@1:g 3@0:f", "1 f | 2 g | 3 f ! | 4 g"},                 //
		{"2@0:f 2@1:g 2@0:f 3@1:g 3@0:f", "1 f | 2 g | 3 f !"},                                   // one alike was left on the way
		{"2@0:f 2@1:g 2@0:f 2@0:f 3@1:g 3@0:f 3@0:f", "1 f | 2 g | 3 f ! | 4 f !"},               // two of them
		{"2@0:f 2@1:f 3@0:f", "1 f | 2 f !"},                                                     // of another place
		{"2@0:f 2@0:g 3@0:f", "1 f | 2 g !"},                                                     // of another text
		{"2@0:a 1@5 4@5 2@1:b 5@5:x 6@5:x 3@1:b 7@5:x 3@0:a", "1 a | 2 b"},                       // other Kinds between
		{"2@-5:a 3@-5:a 2@5:a 3@-5:a", "1 a | 1 a !"},                                            //
		{"2@0 3@0 2@0", "1  | 1  !"},                                                             // without a text
		{"2@1:a 2@2:a 2@3:a 3@1:a 2@1:a 2@2:a 3@2:a", "1 a | 2 a ! | 3 a ! | 1 a ! | 2 a"},       //
		{"2@0:1 2@0:22 2@0:1 3@0:22 3@0:22 3@0:1 2@0:1", "1 1 | 2 22 | 3 1 ! | 1 1 !"},           //
		{"2@0:a 2@1:b 3@2:c 3@1:a 3@0:b 3@1:b 3@1:b 2@1:b", "1 a ! | 2 b | 2 b !"},               // ends that have no beginning
		{"2@0:a 2@0:b 2@0:c 2@0:d 3@0:b 2@0:e 3@0:d 3@0:e", "1 a ! | 2 b | 3 c ! | 4 d ! | 2 e"}, //
	} {
		wantCalls(t, events(c.l), c.must)
	}
	wantCalls(t, []api.Event{{Kind: 2 + 1<<32, Text: "a"}, {Kind: 2, At: 1, Text: "b"}, {Kind: 3, At: 1 + 1<<32, Text: "b"}, {Kind: math.MaxInt}, {Kind: math.MinInt}}, "1 b !")
	wantCalls(t, []api.Event{{Kind: 2, At: math.MaxInt, Text: "a"}, {Kind: 2, At: math.MinInt, Text: "a"}, {Kind: 3, At: math.MaxInt, Text: "a"}}, "1 a | 2 a !")
}

// Texts: 100 bytes are written of them; bytes below 32 as `?`.
func TestTextsOfCalls(t *testing.T) {
	for _, n := range []int{0, 1, 99, 100, 101, 200, 70000} {
		name := strings.Repeat("x", n)
		wantCalls(t, []api.Event{{Kind: 2, Text: name}, {Kind: 3, Text: name}, {Kind: 2, Text: name}}, "1 "+name[:min(n, 100)]+" | 1 "+name[:min(n, 100)]+" !")
	}
	for b := range 256 {
		must := string([]byte{byte(b)})
		if b < 32 {
			must = "?"
		}
		name := string([]byte{'a', byte(b), 'z'})
		l := []api.Event{{Kind: 2, Text: name}, {Kind: 3, Text: name}}
		is(t, fmt.Sprint("R4: the byte ", b), trace.Calls(l), "1 a"+must+"z\n")
		long := strings.Repeat("y", 99) + name[1:]
		is(t, fmt.Sprint("R4: the byte ", b, " as the last one"), trace.Calls([]api.Event{{Kind: 2, Text: long}}), "1 "+long[:99]+must+" !\n")
	}
	// What is not written tells calls apart, too; and what is written alike is not the same.
	long := strings.Repeat("x", 100)
	wantCalls(t, []api.Event{{Kind: 2, Text: long + "a"}, {Kind: 3, Text: long + "b"}, {Kind: 3, Text: long}}, "1 "+long+" !")
	wantCalls(t, []api.Event{{Kind: 2, Text: "\n"}, {Kind: 3, Text: "?"}, {Kind: 2, Text: "\x00"}, {Kind: 3, Text: "\n"}}, "1 ? | 2 ? !")
	wantCalls(t, []api.Event{{Kind: 2, Text: strings.Repeat("\xc3\xa4", 51)}}, "1 "+strings.Repeat("\xc3\xa4", 50)+" !")
}

// The first 200000 events are read, and none behind them.
func TestCallsOfLongLists(t *testing.T) {
	begin, end, other := api.Event{Kind: 2, Text: "f"}, api.Event{Kind: 3, Text: "f"}, api.Event{Kind: 1}
	fill := repeated(most-2, other)
	is(t, "R4: an end that is read", trace.Calls(slices.Concat([]api.Event{begin}, fill, []api.Event{end})), "1 f\n")
	is(t, "R4: an end behind", trace.Calls(slices.Concat([]api.Event{begin, other}, fill, []api.Event{end})), "1 f !\n")
	is(t, "R4: a beginning that is read", trace.Calls(slices.Concat(fill, []api.Event{other, begin, end})), "1 f !\n")
	is(t, "R4: a beginning behind", trace.Calls(slices.Concat(fill, []api.Event{other, other, begin, end})), "")
	is(t, "R4: one behind another", trace.Calls(repeated(most, begin, end)), strings.Repeat("1 f\n", most/2))
	var must strings.Builder
	for i := range most {
		fmt.Fprintf(&must, "%d f !\n", i+1)
	}
	is(t, "R4: one within another", trace.Calls(repeated(most+10, begin)), must.String())
	must.Reset()
	for i := range most / 2 {
		fmt.Fprintf(&must, "%d f\n", i+1)
	}
	is(t, "R4: and all end", trace.Calls(append(repeated(most/2, begin), repeated(most, end)...)), must.String())
}

// Many calls are open, and ends look for others, or for the outermost one: that takes no time.
func TestCallsThatAreLookedForLong(t *testing.T) {
	half := most / 2
	var open []api.Event
	var left, ended strings.Builder
	for i := range half {
		open = append(open, api.Event{Kind: 2, At: i, Text: "f"})
		fmt.Fprintf(&left, "%d f !\n", i+1)
		fmt.Fprintf(&ended, "%d f%s\n", i+1, map[bool]string{true: "", false: " !"}[i == 0])
	}
	is(t, "R4: ends of nothing", trace.Calls(append(open[:half:half], repeated(half, api.Event{Kind: 3, At: -1, Text: "f"})...)), left.String())
	is(t, "R4: ends of the outermost", trace.Calls(append(open[:half:half], repeated(half, api.Event{Kind: 3, Text: "f"})...)), ended.String())
	alike := repeated(half, api.Event{Kind: 2, At: 5, Text: "g"})
	for i := range alike {
		alike[i].At = 5 * (i % 2)
	}
	l := slices.Concat([]api.Event{{Kind: 2, Text: "main"}}, alike, []api.Event{{Kind: 3, Text: "main"}}, repeated(half, api.Event{Kind: 3, Text: "g"}))
	got := trace.Calls(l)
	if strings.Count(got, " g !\n") != half || !strings.HasPrefix(got, "1 main\n2 g !\n3 g !\n") {
		t.Errorf("R4: what was left is %s", brief(got))
	}
}

// Of runs: recursion, deferred calls, panics that go through several calls, and are recovered further out.
func TestCallsOfRuns(t *testing.T) {
	for _, c := range []struct{ s, must string }{
		{"func main() { f(2) }\nfunc f(n) { if n > 0 { f(n - 1) } }", "1 main | 2 f | 3 f | 4 f"},
		{"func main() { defer g(); h() }\nfunc g() { recover(); h2() }\nfunc h() { panic(1) }\nfunc h2() { }", "1 main | 2 h ! | 3 g | 4 h2"},
		{"func main() { f(); f() }\nfunc f() { defer func() { recover() }(); g() }\nfunc g() { h() }\nfunc h() { panic(1) }", "1 main | 2 f | 3 g ! | 4 h ! | 5 func | 2 f | 3 g ! | 4 h ! | 5 func"},
		{"func main() { for { main() } }", "1 main ! | 2 main ! | 3 main ! | 4 main ! | 5 main ! | 6 main !"},
		{"type T struct { a }\nfunc (t T) m() { }\ntype U struct { .P }\nprotocol P { m(0) }\nfunc main() { T{}.m(); T.m(T{}); U.m(U{P: T{}}); (&fault{}).Error(); func() { }() }", "1 main | 2 T.m | 2 T.m | 2 P.m | 2 fault.Error | 2 func"},
		{"var x = f()\nfunc f() { return 1 }\nfunc main() { }", "1 f | 1 main"},
		{"func main() { print(len(\"a\"), int(1.5)) }", "1 main"},
		// By a panic two calls of the same place and name are left, and the call around them ends: the words give that end to the innermost.
		{"func main() { f(3) }\nfunc f(n) { defer func() { if n == 2 { recover() } }(); if n == 0 { panic(1) }; f(n - 1) }", "1 main | 2 f | 3 f ! | 4 f ! | 5 f | 6 func | 6 func | 6 func | 5 func"},
	} {
		wantCalls(t, ran(t, c.s, 500, 6), c.must)
	}
}
