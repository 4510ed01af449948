package certain_test

import (
	"slices"
	"strconv"
	"strings"
	"testing"

	"guise/api"
	"guise/certain"
	"guise/walk"
)

// watched is a program that does the same, and tells what it sees: ahead of each statement the types of the program's variables, and the type of what comes to each assertion and each type switch, with its place.
func watched(t *testing.T, n api.Node, variables []string) api.Node {
	t.Helper()
	look := "func look__() { print(\"#\""
	for _, v := range variables {
		look += ", typeof(" + v + ")"
	}
	n.Kids = slices.Clone(n.Kids)
	for i, kid := range n.Kids {
		n.Kids[i] = watchedNode(kid)
	}
	n.Kids = append(n.Kids, parsed(t, look+") }\nfunc seen__(at, v) { print(\"@\", at, typeof(v)); return v }\n").Kids...)
	return n
}

func watchedNode(n api.Node) api.Node {
	n.Kids = slices.Clone(n.Kids)
	for i, kid := range n.Kids {
		n.Kids[i] = watchedNode(kid)
	}
	see := func(e api.Node) api.Node {
		return node(api.NCall, "", node(api.NName, "seen__"), node(api.NInt, strconv.Itoa(n.At)), e)
	}
	switch n.Kind {
	case api.NBlock:
		var out []api.Node
		for _, s := range n.Kids {
			out = append(out, node(api.NDo, "", node(api.NCall, "", node(api.NName, "look__"))), s)
		}
		n.Kids = out
	case api.NAssert:
		n.Kids[0] = see(n.Kids[0])
	case api.NTypeSwitch:
		n.Kids[1] = see(n.Kids[1])
	}
	return n
}

// asked are the assertions and the type switches of a tree, by their places.
func asked(n api.Node, at map[int]api.Node) {
	if n.Kind == api.NAssert || n.Kind == api.NTypeSwitch {
		at[n.At] = n
	}
	for _, kid := range n.Kids {
		asked(kid, at)
	}
}

// watcher holds what a run tells against what is certain of its program.
type watcher struct {
	t      *testing.T
	text   string
	model  *model // it knows what holds what
	sets   [][]string
	claims map[int][]certain.Claim
	at     map[int]api.Node
	count  counted
}

func (w *watcher) line(s string) {
	words := strings.Fields(s)
	switch {
	case len(words) == len(w.sets)+1 && words[0] == "#":
		for i, name := range words[1:] {
			if !slices.Contains(w.sets[i], name) {
				w.t.Fatalf("Z4: %s: variable %d is %s, and must be one of %v", w.text, i, name, w.sets[i])
			}
			w.count["looked at"]++
			if len(w.sets[i]) < 5 {
				w.count["looked at, of few"]++
			}
		}
	case len(words) == 3 && words[0] == "@":
		at, _ := strconv.Atoi(words[1])
		if n := w.at[at]; n.Kind == api.NAssert {
			w.come(n.At, typeText(n.Kids[1]), words[2], "assertion")
		} else {
			w.cases(n, words[2])
		}
	}
}

// cases come one by one, till one holds.
func (w *watcher) cases(n api.Node, name string) {
	for _, c := range n.Kids[2:] {
		for _, x := range c.Kids[0].Kids {
			if w.come(c.At, typeText(x), name, "case") {
				return
			}
		}
	}
}

// come is an assertion, or a case, that a value comes to: whether it holds, and as it is certain.
func (w *watcher) come(at int, want, name, what string) bool {
	holds := w.model.holds(name, want)
	var claims []certain.Claim
	for _, c := range w.claims[at] {
		if c.Want == want {
			claims = append(claims, c)
		}
	}
	if len(claims) != 1 {
		w.count[what+" open"]++
		return holds
	}
	w.count[what+map[bool]string{true: " always", false: " never"}[claims[0].Always]]++
	if claims[0].Always != holds && w.once(at, want) {
		w.t.Fatalf("Z4: %s: what comes to %s at %d is %s; %v", w.text, want, at, name, claims[0])
	}
	return holds
}

// once: a type that a case has twice has two claims, or one of them alone, which tells not which.
func (w *watcher) once(at int, want string) bool {
	count := 0
	for _, n := range w.at {
		if n.Kind == api.NTypeSwitch {
			for _, c := range n.Kids[2:] {
				for _, x := range c.Kids[0].Kids {
					if c.At == at && typeText(x) == want {
						count++
					}
				}
			}
		}
	}
	return count < 2
}

func played(t *testing.T, s string, n api.Node, fuel int, c counted) {
	t.Helper()
	names, sets, err := certain.Types(n)
	l, lookErr := certain.Look(n)
	if err != nil || lookErr != nil {
		t.Fatalf("%s: %v, %v", s, err, lookErr)
	}
	w := &watcher{t: t, text: s, model: newModel(n), sets: sets, claims: map[int][]certain.Claim{}, at: map[int]api.Node{}, count: c}
	for _, one := range l {
		w.claims[one.At] = append(w.claims[one.At], one)
	}
	asked(n, w.at)
	o, err := walk.Run(watched(t, n, names), fuel, 200)
	if o.End == 0 {
		t.Fatalf("%s: %v", s, err)
	}
	c["end "+strconv.Itoa(o.End)]++
	for _, line := range o.Out {
		w.line(line)
	}
}

// What is certain is so, on runs of programs by chance.
func TestRunsByChance(t *testing.T) {
	g := growing(2)
	c := counted{}
	for range 1500 {
		s, n := g.grown(t, true)
		played(t, s, n, 3000, c)
	}
	c.least(t, map[string]int{"looked at": 100000, "looked at, of few": 5000, "assertion always": 100, "assertion never": 1000, "assertion open": 1000, "case always": 50, "case never": 300, "case open": 300})
}

// And on runs of programs that do much.
func TestRuns(t *testing.T) {
	c := counted{}
	for _, s := range []string{
		"var a = nil\ntype T struct { x; .*U }\ntype U struct { y }\nprotocol P { get(0) }\nfunc (u *U) get() { return u.y }\nfunc main() { for i in 3 { t := T{U: &U{y: i}, x: \"t\"}; a = t.get(); switch v := t.(type) { case P: a = v.get().(int); case any: a = v }; t.y = 1.5; a = t.U.get() } }",
		"var a = 1\nvar b = nil\nfunc f(g, x) { defer func() { b = recover(); switch v := b.(type) { case int, text: a = v; case error: a = v.Error(); case nil: a = [] } }(); return g(x) }\nfunc main() { f(func(x) { panic(x) }, 1); f(func(x) { panic(x) }, \"t\"); f(func(x) { return x.(int) }, 1.5); f(func(x) { return x }, 1); f(nil, nil) }",
		"var m = map{1: \"a\", \"b\": 2.5}\nvar k = nil\nvar v = nil\nfunc main() { for x, y in m { k = x; v = y; z, ok := m[x]; v = z; k = ok; w, no := z.(text); v = w }; m[[]] = 1 }",
		"type K = int\nvar k = K(1)\nvar l = []\nfunc (k K) next() { return k + K(1) }\nfunc main() { for k < K(5) { k = k.next(); l = append(l, k); f := K.next; k = f(k); l[0] = K.next; g := k.next; k = g() } }",
		"var e = nil\ntype E struct { .error; .fault }\nfunc main() { e = E{error: &fault{word: 1, more: \"m\"}}; e = e.error.Error(); x := E{}; e = x.fault; e = x.error; x.error = &fault{}; e = x.error.(error); print(e.Error()) }",
		"var a = nil\nfunc main() { x := 1; y := x.(int); a = y; switch z := y.(type) { case text: a = 1.5; case nil: a = []; case any: a = z.(int); default: a = true }; z, ok := x.(text); a = z; a = ok }",
	} {
		n := parsed(t, s)
		played(t, s, n, 2000, c)
		asTheModel(t, n, s)
	}
	c.least(t, map[string]int{"looked at": 50, "case always": 1, "case never": 1, "assertion always": 1, "assertion never": 1})
}
