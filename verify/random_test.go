package verify_test

import (
	"math/rand"
	"slices"
	"testing"

	"halyard/api"
	"halyard/code"
	"halyard/verify"
)

// dice makes random programs.
type dice struct{ *rand.Rand }

func newDice(seed int) dice { return dice{rand.New(rand.NewSource(int64(seed)))} }

// kind: any one; a free one has no Local.
func (d dice) kind(types int, free bool) int {
	t := d.Intn(types)
	switch k := d.Intn(10); {
	case k < 3:
		return word
	case k < 4:
		return some
	case k < 6:
		return ptr(t)
	case k < 8 || free:
		return arr(t)
	case k < 9:
		return stays(ptr(t))
	}
	return stays(arr(t))
}

func (d dice) list(types, most int, free bool) []int {
	list := make([]int, d.Intn(most+1))
	for i := range list {
		list[i] = d.kind(types, free)
	}
	return list
}

// program: a sound one.
func (d dice) program() api.Prog {
	p := api.Prog{Strs: []string{"a", ""}[:d.Intn(3)]}
	many := 1 + d.Intn(5)
	for range many {
		p.Types = append(p.Types, api.Layout{Fields: append(d.list(many, 2, true), d.kind(many, true))})
	}
	p.Types[d.Intn(many)].Fields = []int{word}
	for f := range 1 + d.Intn(4) {
		fn := api.Func{Locals: d.list(many, 5, false)}
		if f > 0 {
			fn.Params, fn.Results = d.Intn(len(fn.Locals)+1), d.list(many, 3, true)
		}
		for range d.Intn(3) {
			fn.Areas = append(fn.Areas, d.Intn(many))
		}
		p.Funcs = append(p.Funcs, fn)
		if d.Intn(3) == 0 {
			fn.Areas = nil
			p.Funcs = append(p.Funcs, fn)
			p.Tables = append(p.Tables, []int{len(p.Funcs) - 1, len(p.Funcs) - 2})
		}
		p.Tables = append(p.Tables, []int{len(p.Funcs) - 1})[:d.Intn(len(p.Tables)+2)]
	}
	for f := range p.Funcs {
		m := &maker{dice: d, p: p, fn: p.Funcs[f]}
		p.Funcs[f].Code = m.function()
	}
	return p
}

// maker makes a function's code; it knows what is on the stack.
type maker struct {
	dice
	p     api.Prog
	fn    api.Func
	list  []api.Instr
	stack []int
	later []detour
}

// detour is a piece that stands behind all others: where it is jumped to from, and with which stack.
type detour struct {
	from  int
	stack []int
}

func (m *maker) emit(i api.Instr, takes int, puts ...int) {
	m.list = append(m.list, i)
	m.stack = append(slices.Clone(m.stack[:len(m.stack)-takes]), puts...)
}

func (m *maker) function() []api.Instr {
	m.block(3)
	m.leave()
	for len(m.later) > 0 {
		d := m.later[0]
		m.later = m.later[1:]
		m.list[d.from].A = len(m.list)
		m.stack = slices.Clone(d.stack)
		m.block(1)
		m.restore(d.stack)
		m.emit(in(api.OpJump, d.from+1), 0)
	}
	return m.list
}

// leave ends the function here.
func (m *maker) leave() {
	switch m.Intn(4) {
	case 0:
		m.emit(halt, 0)
	case 1:
		m.put(word)
		m.emit(in(api.OpTrap, m.Intn(9)), 1)
	default:
		m.restore(nil)
		for _, k := range m.fn.Results {
			m.put(k)
		}
		m.emit(in(api.OpRet), len(m.stack))
	}
}

// restore makes the stack what it was.
func (m *maker) restore(stack []int) {
	n := 0
	for n < min(len(stack), len(m.stack)) && stack[n] == m.stack[n] {
		n++
	}
	for len(m.stack) > n {
		m.emit(in(api.OpPop), 1)
	}
	for _, k := range stack[n:] {
		m.put(k)
	}
}

// put puts a kind, in one of the ways that there are.
func (m *maker) put(k int) {
	t := (k%api.Local - 2) / 2
	if at := slices.Index(m.fn.Locals, k); at >= 0 && m.Intn(2) == 0 {
		m.emit(in(api.OpGet, at), 0, k)
		return
	}
	if at := slices.Index(m.fn.Areas, t); at >= 0 && k == stays(ptr(t)) {
		m.emit(in(api.OpArea, at), 0, k)
		return
	}
	switch {
	case k == word:
		m.emit(in(api.OpInt, m.Intn(9)), 0, k)
	case k < api.Local && k > some && k%2 == 0 && m.Intn(2) == 0:
		m.emit(in(api.OpNew, t), 0, k)
	case k < api.Local && k > some && k%2 == 1 && m.Intn(2) == 0:
		m.put(word)
		m.emit(in(api.OpMake, t), 1, k)
	default:
		m.emit(in(api.OpNil, k), 0, k)
	}
}

// puts: what fits these kinds.
func (m *maker) puts(kinds ...int) {
	for _, k := range kinds {
		if k >= api.Local && m.Intn(2) == 0 {
			k -= api.Local
		}
		m.put(k)
	}
}

func (m *maker) block(deep int) {
	for range m.Intn(6) {
		if deep > 0 && m.Intn(4) == 0 {
			m.branch(deep)
		} else {
			m.simple()
		}
	}
}

// branch: a piece that is gone round, gone through again, one of two, or one that stands elsewhere.
func (m *maker) branch(deep int) {
	start, old := len(m.list), slices.Clone(m.stack)
	switch m.Intn(4) {
	case 0, 1:
		m.put(word)
		at := len(m.list)
		m.emit(in(api.OpIf), 1)
		m.arm(deep, old)
		end := len(m.list)
		m.list[at].A = end
		if m.Intn(2) == 0 {
			m.emit(in(api.OpJump), 0)
			m.junk()
			m.list[at].A = len(m.list)
			m.stack = slices.Clone(old)
			m.arm(deep, old)
			m.list[end].A = len(m.list)
		}
	case 2:
		m.block(deep - 1)
		m.restore(old)
		m.put(word)
		m.emit(in(api.OpIf, start), 1)
	case 3:
		m.later = append(m.later, detour{start, old})
		m.emit(in(api.OpJump), 0)
	}
	m.stack = old
}

// arm: a piece that leaves the stack as it was, or does not go on.
func (m *maker) arm(deep int, stack []int) {
	m.block(deep - 1)
	if m.Intn(4) == 0 {
		m.leave()
	} else {
		m.restore(stack)
	}
}

// junk is never come to.
func (m *maker) junk() {
	for range m.Intn(3) {
		m.list = append(m.list, in(1+m.Intn(29), m.Intn(9)-2, m.Intn(9)-2))
	}
}

// simple: an instruction that goes on, with what it takes.
func (m *maker) simple() {
	t := m.Intn(len(m.p.Types))
	fields := m.p.Types[t].Fields
	a := m.Intn(len(fields))
	switch m.Intn(14) {
	case 0:
		m.put(m.kind(len(m.p.Types), false))
	case 1:
		if len(m.fn.Locals) > 0 {
			a := m.Intn(len(m.fn.Locals))
			m.puts(m.fn.Locals[a])
			m.emit(in(api.OpSet, a), 1)
		}
	case 2:
		if n := len(m.stack); n > 0 {
			m.emit(in(api.OpDup), 1, m.stack[n-1], m.stack[n-1])
		}
	case 3:
		m.puts(word, word)
		m.emit(in(api.OpArith, m.Intn(10)), 2, word)
	case 4:
		k := m.kind(len(m.p.Types), false)
		if k == word {
			k = some
		}
		m.puts(k, k)
		m.emit(in(api.OpSame), 2, word)
	case 5:
		m.puts(stays(ptr(t)))
		m.emit(in(api.OpLoad, a), 1, fields[a])
	case 6:
		m.puts(stays(ptr(t)), fields[a])
		m.emit(in(api.OpStore, a), 2)
	case 7:
		m.addr(t, a)
	case 8:
		m.puts(stays(arr(t)), word)
		m.emit(in(api.OpElem), 2, m.stack[len(m.stack)-2]-1)
	case 9:
		m.puts(stays(arr(t)))
		m.emit(in(api.OpLen), 1, word)
	case 10:
		m.puts(ptr(t))
		m.emit(in(api.OpBox), 1, some)
		if m.Intn(2) == 0 {
			m.emit(in(api.OpTag), 1, word)
		} else if m.Intn(2) == 0 {
			m.emit(in(api.OpUnbox, t), 1, ptr(t))
		}
	case 11, 12:
		m.call()
	case 13:
		if len(m.p.Strs) > 0 && slices.Equal(fields, []int{word}) {
			m.emit(in(api.OpStr, m.Intn(len(m.p.Strs)), t), 0, arr(t))
		}
		m.put(word)
		m.emit(in(api.OpOut+m.Intn(2)), 1)
	}
}

func (m *maker) addr(t, a int) {
	for b, l := range m.p.Types {
		if slices.Equal(l.Fields, m.p.Types[t].Fields[a:a+1]) {
			m.puts(stays(ptr(t)))
			m.emit(in(api.OpAddr, a, b), 1, m.stack[len(m.stack)-1]-ptr(t)+ptr(b))
			return
		}
	}
}

func (m *maker) call() {
	f := m.Intn(len(m.p.Funcs))
	i := in(api.OpCall, f)
	if len(m.p.Tables) > 0 && m.Intn(2) == 0 {
		i = in(api.OpDyn, m.Intn(len(m.p.Tables)))
		f = m.p.Tables[i.A][0]
	}
	fn := m.p.Funcs[f]
	m.puts(fn.Locals[:fn.Params]...)
	if i.Op == api.OpDyn {
		m.put(word)
	}
	m.emit(i, fn.Params+i.Op-api.OpCall, fn.Results...)
}

// P11.1, P11.2: random programs that are sound.
func TestRandomSound(t *testing.T) {
	ops := map[int]int{}
	for seed := range 3000 {
		p := newDice(seed).program()
		if want := hold(t, p); want.e != api.OK {
			t.Fatalf("seed %d is not sound: %d at %d, %d", seed, want.e, want.f, want.at)
		}
		for f, stacks := range judgement(p).stacks {
			for at, list := range stacks {
				if list != nil {
					ops[p.Funcs[f].Code[at].Op]++
				}
			}
		}
	}
	for op := api.OpInt; op <= api.OpStr; op++ {
		if ops[op] < 100 {
			t.Errorf("operation %d was met %d times", op, ops[op])
		}
	}
}

// number: one near what stands there, or far from everything.
func (d dice) number(old int) int {
	switch d.Intn(8) {
	case 0:
		list := ends()
		return list[d.Intn(len(list))]
	case 1:
		return old + api.Local
	case 2:
		return old - api.Local
	case 3:
		return old + 1
	case 4:
		return old - 1
	}
	return d.Intn(12) - 1
}

// change changes one thing of a program, mostly of its code.
func (d dice) change(p *api.Prog) {
	fn := &p.Funcs[d.Intn(len(p.Funcs))]
	at := d.Intn(len(fn.Code) + 1)
	some := in(1+d.Intn(29), d.number(0), d.number(0))
	switch k := d.Intn(24); {
	case k == 0:
		d.changeList(&p.Types[d.Intn(len(p.Types))].Fields)
	case k == 1:
		d.changeList(&fn.Locals)
	case k == 2:
		d.changeList(&fn.Results)
	case k == 3:
		d.changeList(&fn.Areas)
	case k == 4:
		fn.Params = d.number(fn.Params)
	case k == 5 && len(p.Tables) > 0:
		d.changeList(&p.Tables[d.Intn(len(p.Tables))])
	case k < 8:
		fn.Code = slices.Insert(slices.Clone(fn.Code), at, some)
	case at == len(fn.Code):
		fn.Code = fn.Code[:d.Intn(at+1)]
	case k < 11:
		fn.Code = slices.Delete(slices.Clone(fn.Code), at, at+1)
	case k < 13:
		fn.Code[at] = some
	case k < 15:
		fn.Code[at].Op = 1 + d.Intn(29)
	case k < 21:
		fn.Code[at].A = d.number(fn.Code[at].A)
	default:
		fn.Code[at].B = d.number(fn.Code[at].B)
	}
}

func (d dice) changeList(list *[]int) {
	at := d.Intn(len(*list) + 1)
	switch {
	case at == len(*list):
		*list = append(slices.Clone(*list), d.number(0))
	case d.Intn(3) == 0:
		*list = slices.Delete(slices.Clone(*list), at, at+1)
	default:
		*list = slices.Clone(*list)
		(*list)[at] = d.number((*list)[at])
	}
}

// P11.1, P11.2: random programs with a change or two.
func TestRandomChanged(t *testing.T) {
	met := map[api.Errno]int{}
	for seed := range 30000 {
		d := newDice(seed)
		p := d.program()
		for range 1 + d.Intn(2) {
			d.change(&p)
		}
		met[hold(t, p).e]++
	}
	for _, e := range []api.Errno{api.OK, api.ErrForm, api.ErrForms, api.ErrRange, api.ErrStack, api.ErrKind, api.ErrJump} {
		if met[e] < 300 {
			t.Errorf("the programs met too little: %v", met)
		}
	}
}

// FuzzCheck holds programs against the second way, as bytes of layer 10.
func FuzzCheck(f *testing.F) {
	for _, p := range []api.Prog{world(calling()...), world(in(api.OpOut)), {}, newDice(1).program(), newDice(7).program()} {
		b, _ := code.Encode(p)
		f.Add(b)
	}
	f.Fuzz(func(t *testing.T, b []byte) {
		if p, e := code.Decode(b); e == api.OK {
			hold(t, p)
		}
	})
}

// value is one of a run: its kind without Local, and the frame, from 1 on, whose area it names; 0 if none.
type value struct{ kind, home int }

// run is a run of which only kinds are known; which way it goes is left to dice.
type run struct {
	dice
	t      *testing.T
	p      api.Prog
	frames []*frame
}

type frame struct {
	f, at  int
	locals []value
	stack  []value
	stacks [][]int
	come   []bool
	size   int
}

func zero(kind int) value { return value{kind: kind % api.Local} }

func (r *run) enter(f int, args []value) {
	g := &frame{f: f, locals: slices.Clone(args)}
	for _, k := range r.p.Funcs[f].Locals[len(args):] {
		g.locals = append(g.locals, zero(k))
	}
	g.stacks, g.come, _ = verify.Stacks(r.p, f)
	g.size, _ = verify.Size(r.p, f)
	for _, t := range r.p.Funcs[f].Areas {
		g.size -= len(r.p.Types[t].Fields)
	}
	r.frames = append(r.frames, g)
}

// fits: a value where a kind was told, which may be Local where it names no area.
func (r *run) fits(v value, kind int) {
	r.t.Helper()
	if v.kind != kind%api.Local || v.home > 0 && kind < api.Local || v.home > len(r.frames) {
		r.t.Fatalf("%v where %d was told; %s", v, kind, told(r.p))
	}
}

// step: one instruction; false behind the last one. What a value must be it asks of the value, not of what was told.
func (r *run) step() bool {
	g := r.frames[len(r.frames)-1]
	fn := r.p.Funcs[g.f]
	i := fn.Code[g.at]
	if !g.come[g.at] || len(g.stack) != len(g.stacks[g.at]) || len(g.locals)+len(g.stack) > g.size {
		r.t.Fatalf("at %d of %d: %v; want %v; %s", g.at, g.f, g.stack, g.stacks[g.at], told(r.p))
	}
	for k, v := range g.stack {
		r.fits(v, g.stacks[g.at][k])
	}
	for k, v := range g.locals {
		r.fits(v, fn.Locals[k])
	}
	g.at++
	switch i.Op {
	case api.OpJump:
		g.at = i.A
	case api.OpIf:
		g.take(r.t, word)
		if r.Intn(2) == 0 {
			g.at = i.A
		}
	case api.OpCall, api.OpDyn:
		if i.Op == api.OpDyn {
			g.take(r.t, word)
			i.A = r.p.Tables[i.A][r.Intn(len(r.p.Tables[i.A]))]
		}
		n := len(g.stack) - r.p.Funcs[i.A].Params
		args := g.stack[n:]
		g.stack = g.stack[:n:n]
		r.enter(i.A, args)
	case api.OpRet:
		r.frames = r.frames[:len(r.frames)-1]
		if len(r.frames) == 0 {
			return false
		}
		last := r.frames[len(r.frames)-1]
		for k, v := range g.stack {
			r.fits(v, fn.Results[k])
			last.stack = append(last.stack, v)
		}
	case api.OpTrap, api.OpHalt:
		return false
	default:
		g.plain(r, fn, i)
	}
	return true
}

func (g *frame) take(t *testing.T, kind int) value {
	t.Helper()
	v := g.stack[len(g.stack)-1]
	g.stack = g.stack[:len(g.stack)-1]
	if kind >= 0 && v.kind != kind {
		t.Fatalf("%v where %d is taken", v, kind)
	}
	return v
}

func (g *frame) put(v value) { g.stack = append(g.stack, v) }

// plain: what stays within the frame.
func (g *frame) plain(r *run, fn api.Func, i api.Instr) {
	t := r.t
	switch i.Op {
	case api.OpInt:
		g.put(zero(word))
	case api.OpNil:
		g.put(zero(i.A))
	case api.OpGet:
		g.put(g.locals[i.A])
	case api.OpSet:
		g.locals[i.A] = g.take(t, -1)
	case api.OpPop:
		g.take(t, -1)
	case api.OpDup:
		v := g.take(t, -1)
		g.put(v)
		g.put(v)
	case api.OpArith:
		g.take(t, word)
		g.take(t, word)
		g.put(zero(word))
	case api.OpSame:
		g.take(t, g.take(t, -1).kind)
		g.put(zero(word))
	case api.OpNew:
		g.put(zero(ptr(i.A)))
	case api.OpMake:
		g.take(t, word)
		g.put(zero(arr(i.A)))
	case api.OpArea:
		g.put(value{ptr(fn.Areas[i.A]), len(r.frames)})
	case api.OpLoad:
		g.put(zero(r.p.Types[(g.take(t, -1).kind-2)/2].Fields[i.A]))
	case api.OpStore:
		v, to := g.take(t, -1), g.take(t, -1)
		r.fits(v, r.p.Types[(to.kind-2)/2].Fields[i.A])
	case api.OpAddr:
		g.put(value{ptr(i.B), g.take(t, -1).home})
	case api.OpElem:
		g.take(t, word)
		g.put(zero(g.take(t, -1).kind - 1))
	case api.OpLen:
		g.take(t, -1)
		g.put(zero(word))
	case api.OpBox:
		if v := g.take(t, -1); v.home > 0 {
			t.Fatalf("%v is boxed", v)
		}
		g.put(zero(some))
	case api.OpTag:
		g.take(t, some)
		g.put(zero(word))
	case api.OpUnbox:
		g.take(t, some)
		g.put(zero(ptr(i.A)))
	case api.OpOut, api.OpPut:
		g.take(t, word)
	case api.OpStr:
		g.put(zero(arr(i.B)))
	}
}

// P5, P11.2: runs of sound programs, changed ones too, meet what Stacks and Size tell, and no pointer leaves its frame for one below.
func TestRuns(t *testing.T) {
	steps := 0
	for seed := range 3000 {
		d := newDice(seed)
		p := d.program()
		for range d.Intn(3) {
			d.change(&p)
		}
		if _, _, e := verify.Check(p); e != api.OK {
			continue
		}
		r := &run{dice: d, t: t, p: p}
		for r.enter(0, nil); steps < 1000000 && len(r.frames) < 20 && r.step() && d.Intn(200) > 0; {
			steps++
		}
	}
	if steps < 10000 {
		t.Errorf("only %d steps", steps)
	}
}
