package walk

// statement is one; how it ended says where to go on.
type statement interface{ do(f *frame) way }

// way is where to go on: with the next statement, or out of what stands around.
type way struct {
	kind   int
	target int // the loop or switch that is meant, by its number
}

const (
	goOn   = iota
	goOut  // out of the function
	goFall // into the next case
	goBreak
	goTurn // on with the next turn
)

// begun is a statement that counts: its step, and its place as the hand's.
type begun struct {
	at   int
	what statement
}

func (s begun) do(f *frame) way {
	f.begin(s.at)
	return s.what.do(f)
}

type block struct{ all []statement }

func (s block) do(f *frame) way {
	for _, one := range s.all {
		if w := one.do(f); w.kind != goOn {
			return w
		}
	}
	return way{}
}

// jump is a break, a continue or a fallthrough.
type jump struct{ to way }

func (s jump) do(*frame) way { return s.to }

type define struct {
	slot int
	made expr
}

func (s define) do(f *frame) way {
	f.slots[s.slot] = &variable{s.made.eval(f)}
	return way{}
}

// pairing is an assertion, or an index, with two values.
type pairing interface {
	pair(f *frame) (value, bool)
}

type defineTwo struct {
	first, second int
	made          pairing
}

func (s defineTwo) do(f *frame) way {
	v, ok := s.made.pair(f)
	f.slots[s.first] = &variable{v}
	f.slots[s.second] = &variable{boolOf(ok)}
	return way{}
}

// placing finds a place.
type placing interface{ find(f *frame) place }

type assign struct {
	to   placing
	made expr
}

func (s assign) do(f *frame) way {
	p := s.to.find(f)
	p.lay(f.run, s.made.eval(f))
	return way{}
}

// assignWith is += and its like.
type assignWith struct {
	op   string
	to   placing
	made expr
}

func (s assignWith) do(f *frame) way {
	p := s.to.find(f)
	v := p.read(f.run)
	p.lay(f.run, f.run.operate(s.op, v, s.made.eval(f)))
	return way{}
}

type assignTwo struct {
	first, second placing
	made          pairing
}

func (s assignTwo) do(f *frame) way {
	v, ok := s.made.pair(f)
	s.first.find(f).lay(f.run, v)
	s.second.find(f).lay(f.run, boolOf(ok))
	return way{}
}

// stepped is ++ or --.
type stepped struct {
	op string
	to placing
}

func (s stepped) do(f *frame) way {
	p := s.to.find(f)
	v := p.read(f.run)
	n, is := v.(integer)
	if !is {
		panic(f.run.fault("operand", s.op+" "+nameOf(v)))
	}
	if s.op == "++" {
		n.n++
	} else {
		n.n--
	}
	p.lay(f.run, n)
	return way{}
}

type choice struct {
	condition expr
	then, not statement
}

func (s choice) do(f *frame) way {
	if f.run.condition(s.condition.eval(f)) {
		return s.then.do(f)
	}
	return s.not.do(f)
}

type giveBack struct{ made expr }

func (s giveBack) do(f *frame) way {
	f.answer = s.made.eval(f)
	return way{kind: goOut}
}

type perform struct{ call expr }

func (s perform) do(f *frame) way {
	s.call.eval(f)
	return way{}
}

// putOff lays a call down.
type putOff struct {
	call call
	at   int
}

func (s putOff) do(f *frame) way {
	called := s.call.called.eval(f)
	args := evaluated(f, s.call.args)
	f.run.callableOrNil(called) // only that it is nil is left for its turn
	f.layDown(laidCall{called, args, s.at}, s.at)
	return way{}
}

type putOffBuilt struct {
	call builtCall
	at   int
}

func (s putOffBuilt) do(f *frame) way {
	f.layDown(laidBuilt{s.call.name, evaluated(f, s.call.args)}, s.at)
	return way{}
}

func (f *frame) layDown(l laid, at int) {
	f.laid = append(f.laid, l)
	f.run.event(toldDefer, at, "")
}
