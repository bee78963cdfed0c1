package closure

import (
	"slices"

	"halyard/api"
)

// value is a number, or a function if it has one.
type value struct {
	num int
	fn  *function
}

// number gives up with the whole, if the value is a function.
func (v value) number() int {
	if v.fn != nil {
		panic(api.ErrKind)
	}
	return v.num
}

// function: where its code begins, and what it brings along: a term's the scope in which it was made, a closed one's its values.
type function struct {
	at    int
	scope *scope[value]
	env   []value
}

// frame is a call that goes on, with the values that wait in it.
type frame struct {
	at     int
	scope  *scope[value]
	env    []value
	values []value
	caller *frame
}

func (f *frame) push(v value) { f.values = append(f.values, v) }

func (f *frame) pop() value { return f.take(1)[0] }

// take: the last n values, which are there till something is pushed.
func (f *frame) take(n int) []value {
	left := len(f.values) - n
	list := f.values[left:]
	f.values = f.values[:left]
	return list
}

// machine has frames of its own: there may be MaxFuel calls within one another, with very much waiting in each, for which Go's stack has no room.
type machine struct {
	*program
	*frame
	fuel, steps int
	last        value // of the frame that has ended last
}

func (p *program) run(fuel int) (n, steps int, e api.Errno) {
	if fuel < 0 {
		return 0, 0, api.ErrArg
	}
	defer func() {
		if r := recover(); r != nil {
			n, steps, e = 0, 0, r.(api.Errno)
		}
	}()
	m := machine{program: p, frame: &frame{}, fuel: min(fuel, api.MaxFuel)}
	for m.frame != nil {
		in := m.code[m.at]
		m.at++
		m.carryOut(in)
	}
	return m.last.number(), m.steps, api.OK
}

func (m *machine) carryOut(in instr) {
	switch in.do {
	case doNum:
		m.push(value{num: in.num})
	case doGet:
		m.push(m.scope.at(in.num))
	case doEnv:
		m.push(m.env[in.num])
	case doKeep:
		m.push(value{fn: &function{at: m.at, scope: m.scope}})
		m.at = in.num
	case doMake:
		s := m.starts[in.num]
		m.push(value{fn: &function{at: s.at, env: slices.Clone(m.take(s.env))}})
	case doCall:
		m.call()
	case doAdd:
		two := m.take(2)
		m.push(value{num: two[0].number() + two[1].number()})
	case doBind:
		m.scope = m.scope.with(m.pop())
	case doUnbind:
		m.scope = m.scope.outer
	case doIf:
		if m.pop().number() == 0 {
			m.at = in.num
		}
	case doJump:
		m.at = in.num
	case doReturn:
		m.leave()
	}
}

// call gives up with the whole, if what is called is no function, or if there is no fuel for it.
func (m *machine) call() {
	two := m.take(2)
	f := two[0].fn
	switch {
	case f == nil:
		panic(api.ErrKind)
	case m.steps == m.fuel:
		panic(api.ErrFull)
	}
	m.steps++
	m.frame = &frame{at: f.at, scope: f.scope.with(two[1]), env: f.env, caller: m.frame}
}

func (m *machine) leave() {
	m.last = m.pop()
	m.frame = m.caller
	if m.frame != nil {
		m.push(m.last)
	}
}
