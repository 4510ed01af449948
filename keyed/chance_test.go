package keyed_test

import (
	"fmt"
	"iter"
	"math/rand/v2"
	"slices"
	"strings"
	"testing"

	"guise/api"
	"guise/keyed"
)

// player does with a map what pick says, and writes down what was answered: the same picks, the same doings.
type player struct {
	m      table
	pick   func(n int) int // from 0 to n less 1
	steps  int             // that are left
	keys   []api.Datum
	values []api.Datum
	seqs   []iter.Seq2[api.Datum, api.Datum]
	log    strings.Builder
	t      *testing.T
}

func (p *player) say(what string, answers ...any) {
	fmt.Fprintln(&p.log, append([]any{what}, answers...)...)
}

func (p *player) one(list []api.Datum) api.Datum { return list[p.pick(len(list))] }

func (p *player) play(deep int) {
	for p.steps > 0 {
		p.step(deep, nil)
	}
	p.say("behind", over(p.m.All()), over(p.m.Walk()))
}

// step does one thing; with the key that is told in a range, or with another one.
func (p *player) step(deep int, told *api.Datum) {
	p.steps--
	k := p.one(p.keys)
	if told != nil && p.pick(3) == 0 {
		k = *told
	}
	switch what := p.pick(20); {
	case what < 8:
		v := p.one(p.values)
		p.say("put", short(k), short(v), fault(p.t, p.m.Put(k, v)))
	case what < 13:
		was, err := p.m.Drop(k)
		p.say("drop", short(k), was, fault(p.t, err))
	case what < 15:
		v, is, err := p.m.Get(k)
		p.say("get", short(k), short(v), is, fault(p.t, err), p.m.Len())
	case what < 16:
		p.seqs = append(p.seqs, p.m.All(), p.m.Walk())
	case deep > 0 && what < 17 && len(p.seqs) > 0:
		p.over("range", deep, p.seqs[p.pick(len(p.seqs))])
	case deep > 0 && what < 18:
		p.over("all", deep, p.m.All())
	case deep > 0:
		p.over("walk", deep, p.m.Walk())
	}
}

func (p *player) over(what string, deep int, seq iter.Seq2[api.Datum, api.Datum]) {
	p.say(what)
	most := 1 + p.pick(30)
	for k, v := range seq {
		p.say("told", short(k), short(v), p.m.Len())
		for n := p.pick(4); n > 0 && p.steps > 0; n-- {
			p.step(deep-1, &k)
		}
		if most--; most == 0 {
			p.say("left")
			break
		}
	}
	p.say("end of", what)
}

// played are a map and the model with which the same was done: they tell the same.
func played(t *testing.T, steps int, keys, values []api.Datum, picks func() func(n int) int) string {
	t.Helper()
	var logs [3]string
	for i, m := range []table{keyed.New(), &pairs{}, keyed.New()} {
		p := &player{m: m, pick: picks(), steps: steps, keys: keys, values: values, t: t}
		p.play(3)
		logs[i] = p.log.String()
	}
	if logs[0] != logs[1] {
		t.Fatalf("M7: %s", firstUnlike(logs[0], logs[1]))
	}
	if logs[0] != logs[2] {
		t.Fatalf("M7: of two maps to which the same was done: %s", firstUnlike(logs[0], logs[2]))
	}
	return logs[0]
}

func firstUnlike(a, b string) string {
	one, two := strings.Split(a, "\n"), strings.Split(b, "\n")
	for i := range min(len(one), len(two)) {
		if one[i] != two[i] {
			return fmt.Sprintf("behind\n%s\nit is %q, must be %q", strings.Join(one[max(0, i-12):i], "\n"), one[i], two[i])
		}
	}
	return "one ends ahead of the other"
}

// some are a few of many, so that they meet often.
func some(r *rand.Rand, n int, from []api.Datum) []api.Datum {
	out := make([]api.Datum, n)
	for i := range out {
		out[i] = oneOf(r, from...)
	}
	return out
}

// pool is all that keys are made of by chance.
func pool() []api.Datum {
	out := slices.Concat(keys(), lost(), []api.Datum{bits(minusZero), record(bits(minusZero)), typed("T", bits(minusZero)), float(0), record(float(0))})
	for n := range 20 {
		out = append(out, clash(n), integer(n), integer(n), record(integer(n)))
	}
	return out
}

func TestByChance(t *testing.T) {
	keysFrom, valuesFrom := pool(), append(keys(), noKeys()...)
	counts := map[string]int{}
	for seed := range uint64(250) {
		r := dice(seed)
		ks := some(r, 2+r.IntN(30), keysFrom)
		vs := some(r, 20, valuesFrom)
		if r.IntN(3) == 0 {
			ks = append(ks, some(r, 2, noKeys())...)
			ks = append(ks, some(r, 2, wrong())...)
			vs = append(vs, some(r, 2, wrong())...)
		}
		log := played(t, 300, ks, vs, func() func(n int) int { return dice(seed + 1000).IntN })
		for line := range strings.SplitSeq(log, "\n") {
			what, _, _ := strings.Cut(line, " ")
			counts[what]++
		}
	}
	for _, what := range []string{"put", "drop", "get", "told", "left", "range", "all", "walk"} {
		if counts[what] < 800 {
			t.Errorf("%s came %d times by chance", what, counts[what])
		}
	}
}

// Many keys, so that the heads are made anew.
func TestManyByChance(t *testing.T) {
	for seed := range uint64(12) {
		r := dice(seed)
		var ks []api.Datum
		for n := range 400 {
			ks = append(ks, oneOf(r, integer(n), clash(n/8), float(float64(n)), record(integer(n), float(0))))
		}
		played(t, 3000, ks, ks[:50], func() func(n int) int { return dice(seed + 2000).IntN })
	}
}

// What bytes say is done: any bytes are doings.
func FuzzKeyed(f *testing.F) {
	f.Add([]byte{1, 0, 1, 2, 1, 2, 3, 1, 3, 5, 18, 9, 1, 1, 9, 9})
	f.Add([]byte("put and drop, and go over all of it, within itself"))
	keysFrom := slices.Concat(pool(), noKeys(), wrong())
	f.Fuzz(func(t *testing.T, data []byte) {
		picks := func() func(n int) int {
			left := data
			return func(n int) int {
				if len(left) == 0 {
					return 0
				}
				got := int(left[0])
				left = left[1:]
				return got % n
			}
		}
		n := 0
		if len(data) > 0 {
			n = int(data[0])
		}
		ks := keysFrom
		if n%2 == 0 { // few, that meet often
			ks = some(dice(uint64(n)), 10, keysFrom)
		}
		played(t, min(len(data)/2, 1000), ks, ks, picks)
	})
}
