package walk

import "guise/assert"

// row is a case of a switch: its values; none: it is the default.
type row struct {
	values []expr
	body   statement
}

// choose is a switch; of nothing: its cases' values are conditions.
type choose struct {
	number int
	of     expr
	rows   []row
}

func (s choose) do(f *frame) way {
	var v value
	if s.of != nil {
		v = s.of.eval(f)
	}
	chosen := s.chosen(f, v)
	if chosen < 0 {
		return way{}
	}
	for {
		w := s.rows[chosen].body.do(f)
		if w.kind != goFall {
			_, out := after(w, s.number)
			return out
		}
		chosen++
	}
}

// chosen is the first case that is it; else the default; below 0: there is none.
func (s choose) chosen(f *frame, v value) int {
	last := -1
	for i, row := range s.rows {
		if row.values == nil {
			last = i
		}
		for _, e := range row.values {
			if s.is(f, v, e.eval(f)) {
				return i
			}
		}
	}
	return last
}

func (s choose) is(f *frame, v, held value) bool {
	if s.of == nil {
		return f.run.condition(held)
	}
	return f.run.equal(v, held)
}

// typeRow is a case of a type switch: a slot below 0: the value has no name.
type typeRow struct {
	cases []assert.Case
	slot  int
	body  statement
}

type chooseType struct {
	number int
	of     expr
	rows   []typeRow
}

func (s chooseType) do(f *frame) way {
	v := s.of.eval(f)
	chosen := s.chosen(f.run, v)
	if chosen < 0 {
		return way{}
	}
	row := s.rows[chosen]
	f.fresh(row.slot, v)
	_, out := after(row.body.do(f), s.number)
	return out
}

func (s chooseType) chosen(r *run, v value) int {
	last := -1
	for i, row := range s.rows {
		if row.cases == nil {
			last = i
		}
		for _, c := range row.cases {
			if c.Nil && v == nil || !c.Nil && r.holds(v, c.Want, c.Pointer) {
				return i
			}
		}
	}
	return last
}
