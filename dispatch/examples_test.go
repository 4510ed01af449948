package dispatch_test

import (
	"testing"

	"guise/api"
	"guise/dispatch"
)

// The chapter's examples, one by one, with the counts behind each call.
func TestExamples(t *testing.T) {
	c := cache(t, declared, 2)
	wantCounts(t, "D1", c, 0, 0, 0)
	for i, one := range []struct {
		q                  question
		says               string
		hits, misses, kept int
	}{
		{find("A", false, "f"), `2 [] "A" false 0`, 0, 1, 1},
		{find("A", false, "f"), `2 [] "A" false 0`, 1, 1, 1},
		{find("A", true, "f"), `2 [] "A" false 0`, 1, 2, 2},
		{meet("A", false, "P"), "false", 1, 3, 2},
		{find("A", true, "f"), `2 [] "A" false 0`, 2, 3, 2},
		{find("A", false, "f"), `2 [] "A" false 0`, 2, 4, 2},
	} {
		is(t, "D2: example 1: "+one.q.String(), one.q.of(c), one.says)
		wantCounts(t, "D3: example 1: behind call "+string(rune('1'+i)), c, one.hits, one.misses, one.kept)
	}
}

func TestExampleWithoutRoom(t *testing.T) {
	c := cache(t, declared, 0)
	for i := range 5 {
		is(t, "D2: example 2", find("A", false, "f").of(c), `2 [] "A" false 0`)
		is(t, "D2: example 2", meet("A", true, "P").of(c), "true")
		wantCounts(t, "D3: example 2", c, 0, 2*i+2, 0)
	}
	for _, room := range []int{-1, 1025} {
		c, err := dispatch.New(table(t, declared), room)
		wantErrArg(t, "D1: example 2", c, err)
	}
}

func TestExampleOfBothKinds(t *testing.T) {
	c := cache(t, declared, 9)
	is(t, "D2: example 3", said(c.Find("A", false, "P")), said(api.Found{}))
	is(t, "D2: example 3", meet("A", false, "P").of(c), "false")
	wantCounts(t, "D3: example 3", c, 0, 2, 2)
}
