package walk

// after is how a loop or switch goes on behind a part of it that ended so: whether it is left, and by which way.
func after(w way, number int) (leave bool, out way) {
	switch {
	case w.kind == goOn, w.kind == goTurn && w.target == number:
		return false, way{}
	case w.kind == goBreak && w.target == number:
		return true, way{}
	}
	return true, w
}

// repeat goes on while a condition holds.
type repeat struct {
	number    int
	condition expr
	body      statement
}

func (s repeat) do(f *frame) way {
	for f.run.condition(s.condition.eval(f)) {
		f.run.step()
		if leave, out := after(s.body.do(f), s.number); leave {
			return out
		}
	}
	return way{}
}

// each goes over something; a slot below 0: nobody wants that.
type each struct {
	number    int
	key, held int
	of        expr
	body      statement
}

func (s each) do(f *frame) way {
	out := way{}
	f.run.turns(s.of.eval(f), func(key, held value) bool {
		f.run.step()
		f.fresh(s.key, key)
		f.fresh(s.held, held)
		leave, to := after(s.body.do(f), s.number)
		out = to
		return !leave
	})
	return out
}

// fresh gives a slot a new variable.
func (f *frame) fresh(slot int, v value) {
	if slot >= 0 {
		f.slots[slot] = &variable{v}
	}
}

// turns goes over what a loop goes over, as long as it is told to.
func (r *run) turns(v value, turn func(key, held value) bool) {
	switch x := v.(type) {
	case integer:
		for i := 0; i < x.n && turn(intOf(i), nil); i++ {
		}
	case list:
		for i := 0; i < len(x.items) && turn(intOf(i), x.items[i]); i++ {
		}
	case text:
		for i := 0; i < len(x.s) && turn(intOf(i), intOf(int(x.s[i]))); i++ {
		}
	case mapping:
		if x.store != nil {
			r.entries(x.store, turn)
		}
	default:
		panic(r.fault("operand", "in "+nameOf(v)))
	}
}

func (r *run) entries(s *store, turn func(key, held value) bool) {
	r.take(s.len())
	for _, was := range s.there() {
		if e := s.again(was); e != nil && !turn(e.key, e.held) {
			return
		}
	}
}
