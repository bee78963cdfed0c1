package emit

import "halyard/api"

// put writes code, when the turn of the function comes to which it belongs.
type put func(b *body)

// body is a function of the machine in the making.
type body struct {
	*module
	unit   *unit // none for a helper
	params int
	code   []api.Instr
	locals []int         // their kinds
	free   map[int][]int // locals that nothing is in, by their kinds
	seats  map[*variable]int
	inner  []int // the locals of the variables that are in scope
	env    int   // the local with what a literal brings along
	loops  []*loop
}

// loop that is around: where it goes round, and what lets each way out of it come to its end.
type loop struct {
	start int
	ends  []func()
}

func newBody(m *module, u *unit, params []int) *body {
	return &body{module: m, unit: u, params: len(params), locals: append([]int(nil), params...), free: map[int][]int{}, seats: map[*variable]int{}}
}

func (b *body) done(results []int) api.Func {
	return api.Func{Params: b.params, Locals: b.locals, Results: results, Code: b.code}
}

// write an instruction with its A and B, as far as it has them.
func (b *body) write(op int, operands ...int) {
	in := api.Instr{Op: op}
	if len(operands) > 0 {
		in.A = operands[0]
	}
	if len(operands) > 1 {
		in.B = operands[1]
	}
	b.code = append(b.code, in)
}

func (b *body) constant(n int) { b.write(api.OpInt, n) }

func (b *body) reckon(what int) { b.write(api.OpArith, what) }

func (b *body) get(locals ...int) {
	for _, local := range locals {
		b.write(api.OpGet, local)
	}
}

func (b *body) set(local int) { b.write(api.OpSet, local) }

// take a local of a kind that nothing is in.
func (b *body) take(kind int) int {
	list := b.free[kind]
	if len(list) == 0 {
		b.locals = append(b.locals, kind)
		return len(b.locals) - 1
	}
	last := len(list) - 1
	b.free[kind] = list[:last]
	return list[last]
}

func (b *body) release(local int) {
	kind := b.locals[local]
	b.free[kind] = append(b.free[kind], local)
}

// keep takes what is on the stack into a local that nothing is in.
func (b *body) keep(kind int) int {
	local := b.take(kind)
	b.set(local)
	return local
}
