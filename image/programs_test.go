package image_test

// midst is a program that has things of each kind, on stacks and in variables, at many of its steps: it stands within calls, loops, laid down calls and panics.
const midst = `
type T struct { x; y }
type E struct { .T; z }
type Q struct { .*T; .S; w }
type K = int
type L = list
protocol S { sum(0) }
func (t T) sum() { return t.x }
func (t *T) add(n) { t.x = n; return t }
func (k K) sum() { return int(k) + 1 }
var g = [1, 2.5, "text", nil, true, K(3), L([4])]
var h = map{1: "a", 2.5: [1], "k": nil, nil(*T): 7, T{x: 1}: T{y: 2}}
var e = &E{z: 5}
func caught() { r := recover(); print("caught", r); return r }
func deep(n) { defer caught(); if n == 0 { panic(K(7)) }; return deep(n - 1) }
func main() {
	l := []
	for i, v in g { l = append(l, func() { i += 1; return [i, v] }) }
	for k, v in h { print(k, v); h[k] = l; delete(h, 2.5) }
	for c in "ab" { for j in 2 { print(c, j) } }
	b := e.add
	x := (*T).add
	print(b(3), x(e.add(1), 4))
	print(deep(2))
	z := &Q{T: b(9), S: K(4)}
	z.x += z.S.sum()
	z.T.y = z
	for a, c in l { z.w = c(); print(z.T.x, typeof(z.w), a) }
}
`

// playable are programs that end in each way there is, behind much of what can be done.
func playable() []string {
	return []string{
		midst,
		"func main() { defer print(1); defer func(a) { print(a, recover()) }([2]); l := [1]; for i in l { for k, v in map{1: l, 2: [3]} { defer print(k, v); l[5] = 1 } } }",
		"type T struct { a; b }\nfunc main() { t := &T{a: T{}}; t.a.b = 5; t.a.a = f(t); print(t) }\nfunc f(p) { p.b = [p]; for i in 3 { p.b[0] = i }; return p }",
		"var n = 0\nfunc f(k) { n += k; defer func() { recover(); n -= k; if k > 0 { f(k - 1) } }(); panic(n) }\nfunc main() { f(4); print(n) }",
		"func main() { e := func() { defer func() { panic([recover()]) }(); panic(1) }; e() }",
		"func main() { x := &fault{word: [1], more: \"m\"}; y := x.Error; print(y()); panic(x) }",
		"func f(n) { print(n); f(n + 1) }\nfunc main() { f(0) }",
		"func main() { l := make(20000); for i in 60 { copy(l, l); print(i) } }",
		"func main() { print([1] == [2]) }",
		"func main() { }",
	}
}
