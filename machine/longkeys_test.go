package machine_test

import (
	"fmt"
	"runtime"
	"strings"
	"testing"
)

// longKeys asks for keys with texts that are about as long as those that have numbers, and much longer, alike but for one byte.
func longKeys(length int) string {
	long := strings.Repeat("x", length-2)
	return fmt.Sprintf(`
type T struct { a; b }
type E struct { .T; c }
type K = text
func long(ahead, behind) { return ahead + "%s" + behind }
func main() {
	m := map{}
	for i, a in ["a", "b"] { for j, b in ["a", "b"] {
		t := long(a, b)
		m[T{a: t}] = [i, j]
		m[T{b: t}] = [1, i, j]
		m[T{a: t, b: t}] = [2, i, j]
		m[T{a: K(t)}] = [3, i, j]
		m[E{T: T{a: t}}] = [4, i, j]
		m[E{c: T{b: t}}] = [5, i, j]
		m[t] = [6, i, j]
		m[K(t)] = [7, i, j]
	} }
	print(len(m), m[T{a: ""}], m[T{a: 1}], m[T{a: nil}], m[T{}], m[E{}], m[T{a: long("a", "c")}], m[T{a: long("a", "")}])
	for k, a in ["a", "b"] { for n, b in ["a", "b"] {
		t := long(a, b)
		print(m[T{a: t}], m[T{b: t}], m[T{a: t, b: t}], m[T{a: K(t)}], m[E{T: T{a: t}}], m[E{c: T{b: t}}], m[t], m[K(t)], m[T{a: t, b: long(b, a)}])
		delete(m, T{a: t})
		delete(m, T{a: long(b, b), b: t})
		delete(m, E{c: T{b: t}})
		print(len(m), m[T{a: t}], m[T{b: t}], m[T{a: t, b: t}])
	} }
	for k, v in m { delete(m, k); print(v, len(m)); if len(m) == 5 { break } }
	for k, v in m { print(v, m[k], len(m)) }
	m[T{a: long("a", "b")}] = 9
	m[T{b: long("b", "b")}] = 8
	for k, v in m { print(v) }
	print(map{T{a: ""}: 1}[T{a: long("a", "a")}])
	n := map{T{a: long("a", "a")}: 1, T{b: long("a", "a")}: 2, T{a: long("b", "b")}: 3}
	delete(n, T{a: long("a", "a")})
	delete(n, T{b: long("a", "a")})
	n[T{a: long("c", "c"), b: 1}] = 4
	print(n[T{a: long("c", "c")}], n[T{a: long("b", "b")}], n[T{a: long("a", "a")}], len(n))
}`, long)
}

// Texts within keys are told apart by all of their bytes, however long they are.
func TestKeysWithLongTexts(t *testing.T) {
	t.Parallel()
	for _, length := range []int{3, 63, 64, 65, 66, 1000} {
		must := asWalk(t, longKeys(length), 500, 5)
		asWalk(t, longKeys(length), 500, 5, 7)
		lines := must.last().Out
		if lines[0] != "32 nil nil nil nil nil nil nil" || lines[1] != "[0, 0] [1, 0, 0] [2, 0, 0] [3, 0, 0] [4, 0, 0] [5, 0, 0] [6, 0, 0] [7, 0, 0] [2, 0, 0]" {
			t.Errorf("00: with %d bytes: %s", length, brief(strings.Join(lines, "\n")))
		}
		is(t, "00: behind keys that went", strings.Join(lines[len(lines)-2:], ", "), "nil, nil 3 nil 2")
	}
}

// A long text that many keys share is there once: in a run, and in one that is loaded.
func TestKeysThatShareALongText(t *testing.T) {
	s := "type T struct { a; b; c }\nvar m = map{}\nfunc main() { t := \"x\"; for i in 16 { t = t + t }; for i in 4000 { m[T{a: t, b: i, c: t}] = i }; for { } }"
	p, table := compiled(t, s)
	m := made(t, p, table, 5)
	if taken := allocated(func() { m.Run(9000) }); taken > 100<<20 {
		t.Errorf("P16.7: a run takes %d bytes", taken)
	}
	b := saved(t, m)
	if taken := allocated(func() { loaded(t, b, p, table) }); taken > 100<<20 {
		t.Errorf("P16.4: what is loaded takes %d bytes", taken)
	}
}

func allocated(do func()) uint64 {
	var before, behind runtime.MemStats
	runtime.ReadMemStats(&before)
	do()
	runtime.ReadMemStats(&behind)
	return behind.TotalAlloc - before.TotalAlloc
}
