package closure

import "halyard/api"

// What instructions do. Each takes its values from the frame's, and puts there what comes of them.
const (
	doNum    = iota // num
	doGet           // what the scope has, num being how far outwards
	doEnv           // what the function brings along at the place num
	doKeep          // a function that keeps the scope: its code begins behind this, and ends ahead of num
	doMake          // the closed function num, with what it brings along
	doCall          // of a function and what it is called with
	doAdd           // of two numbers
	doBind          // of a value, which the scope gets
	doUnbind        // the scope loses its last one
	doIf            // of a number: it goes on at num, if that is 0
	doJump          // it goes on at num
	doReturn
)

type instr struct{ do, num int }

// start is where a closed function's code begins, and how much it brings along.
type start struct{ at, env int }

// program is what terms and closed functions alike are made into: code that begins at 0.
type program struct {
	code   []instr
	starts []start
}

func codeOfTerm(t *api.Term) *program {
	p := &program{}
	p.term(t, nil)
	p.put(doReturn, 0)
	return p
}

func codeOfList(list []api.Body) *program {
	p := &program{}
	for f := range list {
		p.starts = append(p.starts, start{at: len(p.code), env: list[f].Env})
		p.closed(&list[f].Expr, 0)
		p.put(doReturn, 0)
	}
	return p
}

// put: where it stands now.
func (p *program) put(do, num int) int {
	p.code = append(p.code, instr{do, num})
	return len(p.code) - 1
}

// endHere: what goes on elsewhere goes on behind what is there now.
func (p *program) endHere(at int) { p.code[at].num = len(p.code) }

func (p *program) term(t *api.Term, around *scope[string]) {
	kid := func(i int) { p.term(&t.Kids[i], around) }
	inner := func(i int) { p.term(&t.Kids[i], around.with(t.Name)) }
	switch t.Op {
	case api.MVar:
		p.put(doGet, binder(around, t.Name))
	case api.MNum:
		p.put(doNum, t.Num)
	case api.MLam:
		at := p.put(doKeep, 0)
		inner(0)
		p.put(doReturn, 0)
		p.endHere(at)
	case api.MApp:
		p.both(kid, doCall)
	case api.MAdd:
		p.both(kid, doAdd)
	case api.MLet:
		p.let(kid, inner)
	case api.MIf:
		p.choice(kid)
	}
}

// closed: a node that stands in the second of so many CLets. The function's parameter is outside of these.
func (p *program) closed(x *api.Closed, lets int) {
	kid := func(i int) { p.closed(&x.Kids[i], lets) }
	inner := func(i int) { p.closed(&x.Kids[i], lets+1) }
	switch x.Op {
	case api.CParam:
		p.put(doGet, lets)
	case api.CLocal:
		p.put(doGet, lets-1-x.Num)
	case api.CEnv:
		p.put(doEnv, x.Num)
	case api.CNum:
		p.put(doNum, x.Num)
	case api.CMake:
		for i := range x.Kids {
			kid(i)
		}
		p.put(doMake, x.Num)
	case api.CApp:
		p.both(kid, doCall)
	case api.CAdd:
		p.both(kid, doAdd)
	case api.CLet:
		p.let(kid, inner)
	case api.CIf:
		p.choice(kid)
	}
}

func (p *program) both(kid func(int), do int) {
	kid(0)
	kid(1)
	p.put(do, 0)
}

func (p *program) let(kid, inner func(int)) {
	kid(0)
	p.put(doBind, 0)
	inner(1)
	p.put(doUnbind, 0)
}

func (p *program) choice(kid func(int)) {
	kid(0)
	no := p.put(doIf, 0)
	kid(1)
	end := p.put(doJump, 0)
	p.endHere(no)
	kid(2)
	p.endHere(end)
}
