package keyed_test

import (
	"iter"
	"slices"

	"guise/api"
	"guise/value"
)

// A second way through the chapter: a list of pairs that is looked through from its beginning, key by key.

type pair struct {
	k, v   api.Datum
	number int // as the one of this number it was laid down
}

type pairs struct {
	list []pair
	laid int
}

// at is where k's pair stands; -1: nowhere.
func (p *pairs) at(k api.Datum) int {
	return slices.IndexFunc(p.list, func(q pair) bool {
		is, err := value.Equal(q.k, k)
		return is && err == nil
	})
}

func (p *pairs) refuse(all ...api.Datum) error {
	for _, d := range all {
		if !value.Right(d) {
			return &api.Wrong{Code: api.ErrArg}
		}
	}
	return value.Key(all[0])
}

func (p *pairs) Get(k api.Datum) (api.Datum, bool, error) {
	if err := p.refuse(k); err != nil {
		return none, false, err
	}
	if i := p.at(k); i >= 0 {
		return p.list[i].v, true, nil
	}
	return none, false, nil
}

func (p *pairs) Put(k, v api.Datum) error {
	if err := p.refuse(k, v); err != nil {
		return err
	}
	if i := p.at(k); i >= 0 {
		p.list[i].v = v
		return nil
	}
	p.laid++
	p.list = append(p.list, pair{k, v, p.laid})
	return nil
}

func (p *pairs) Drop(k api.Datum) (bool, error) {
	if err := p.refuse(k); err != nil {
		return false, err
	}
	i := p.at(k)
	if i >= 0 {
		p.list = slices.Delete(slices.Clone(p.list), i, i+1)
	}
	return i >= 0, nil
}

func (p *pairs) Len() int { return len(p.list) }

func (p *pairs) All() iter.Seq2[api.Datum, api.Datum] {
	return func(yield func(api.Datum, api.Datum) bool) {
		for _, q := range slices.Clone(p.list) {
			if !yield(q.k, q.v) {
				return
			}
		}
	}
}

// Walk looks at each turn for the key, and for the pair itself, if that is the one of a key that is not equal to itself.
func (p *pairs) Walk() iter.Seq2[api.Datum, api.Datum] {
	return func(yield func(api.Datum, api.Datum) bool) {
		for _, then := range slices.Clone(p.list) {
			for _, q := range p.list {
				self, _ := value.Equal(then.k, then.k)
				same, _ := value.Equal(then.k, q.k)
				if !same && (self || q.number != then.number) {
					continue
				}
				if !yield(q.k, q.v) {
					return
				}
				break
			}
		}
	}
}
