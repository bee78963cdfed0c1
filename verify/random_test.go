package verify_test

import (
	"math/rand"
	"slices"
	"testing"

	"halyard/api"
	"halyard/code"
	"halyard/sample"
	"halyard/verify"
)

// dice makes random programs.
type dice struct{ *rand.Rand }

func newDice(seed int) dice { return dice{rand.New(rand.NewSource(int64(seed)))} }

func (d dice) program() api.Prog { return sample.Prog(d.Intn) }

// P11.1, P11.2: random programs that are sound.
func TestRandomSound(t *testing.T) {
	ops := map[int]int{}
	for seed := range 3000 {
		p := newDice(seed).program()
		if want := hold(t, p); want.e != api.OK {
			t.Fatalf("seed %d is not sound: %d at %d, %d", seed, want.e, want.f, want.at)
		}
		for f, stacks := range judgement(p).stacks {
			for at, list := range stacks {
				if list != nil {
					ops[p.Funcs[f].Code[at].Op]++
				}
			}
		}
	}
	for op := api.OpInt; op <= api.OpStr; op++ {
		if ops[op] < 100 {
			t.Errorf("operation %d was met %d times", op, ops[op])
		}
	}
}

// P11.1, P11.2: random programs with a change or two.
func TestRandomChanged(t *testing.T) {
	met := map[api.Errno]int{}
	for seed := range 30000 {
		d := newDice(seed)
		p := d.program()
		for range 1 + d.Intn(2) {
			sample.ChangeProg(d.Intn, &p)
		}
		met[hold(t, p).e]++
	}
	for _, e := range []api.Errno{api.OK, api.ErrForm, api.ErrForms, api.ErrRange, api.ErrStack, api.ErrKind, api.ErrJump} {
		if met[e] < 300 {
			t.Errorf("the programs met too little: %v", met)
		}
	}
}

// FuzzCheck holds programs against the second way, as bytes of layer 10.
func FuzzCheck(f *testing.F) {
	for _, p := range []api.Prog{world(calling()...), world(in(api.OpOut)), {}, newDice(1).program(), newDice(7).program()} {
		b, _ := code.Encode(p)
		f.Add(b)
	}
	f.Fuzz(func(t *testing.T, b []byte) {
		if p, e := code.Decode(b); e == api.OK {
			hold(t, p)
		}
	})
}

// value is one of a run: its kind without Local, and the frame, from 1 on, whose area it names; 0 if none.
type value struct{ kind, home int }

// run is a run of which only kinds are known; which way it goes is left to dice.
type run struct {
	dice
	t      *testing.T
	p      api.Prog
	frames []*frame
}

type frame struct {
	f, at  int
	locals []value
	stack  []value
	stacks [][]int
	come   []bool
	size   int
}

func zero(kind int) value { return value{kind: kind % api.Local} }

func (r *run) enter(f int, args []value) {
	g := &frame{f: f, locals: slices.Clone(args)}
	for _, k := range r.p.Funcs[f].Locals[len(args):] {
		g.locals = append(g.locals, zero(k))
	}
	g.stacks, g.come, _ = verify.Stacks(r.p, f)
	g.size, _ = verify.Size(r.p, f)
	for _, t := range r.p.Funcs[f].Areas {
		g.size -= len(r.p.Types[t].Fields)
	}
	r.frames = append(r.frames, g)
}

// fits: a value where a kind was told, which may be Local where it names no area.
func (r *run) fits(v value, kind int) {
	r.t.Helper()
	if v.kind != kind%api.Local || v.home > 0 && kind < api.Local || v.home > len(r.frames) {
		r.t.Fatalf("%v where %d was told; %s", v, kind, told(r.p))
	}
}

// step: one instruction; false behind the last one. What a value must be it asks of the value, not of what was told.
func (r *run) step() bool {
	g := r.frames[len(r.frames)-1]
	fn := r.p.Funcs[g.f]
	i := fn.Code[g.at]
	if !g.come[g.at] || len(g.stack) != len(g.stacks[g.at]) || len(g.locals)+len(g.stack) > g.size {
		r.t.Fatalf("at %d of %d: %v; want %v; %s", g.at, g.f, g.stack, g.stacks[g.at], told(r.p))
	}
	for k, v := range g.stack {
		r.fits(v, g.stacks[g.at][k])
	}
	for k, v := range g.locals {
		r.fits(v, fn.Locals[k])
	}
	g.at++
	switch i.Op {
	case api.OpJump:
		g.at = i.A
	case api.OpIf:
		g.take(r.t, word)
		if r.Intn(2) == 0 {
			g.at = i.A
		}
	case api.OpCall, api.OpDyn:
		if i.Op == api.OpDyn {
			g.take(r.t, word)
			i.A = r.p.Tables[i.A][r.Intn(len(r.p.Tables[i.A]))]
		}
		n := len(g.stack) - r.p.Funcs[i.A].Params
		args := g.stack[n:]
		g.stack = g.stack[:n:n]
		r.enter(i.A, args)
	case api.OpRet:
		r.frames = r.frames[:len(r.frames)-1]
		if len(r.frames) == 0 {
			return false
		}
		last := r.frames[len(r.frames)-1]
		for k, v := range g.stack {
			r.fits(v, fn.Results[k])
			last.stack = append(last.stack, v)
		}
	case api.OpTrap, api.OpHalt:
		return false
	default:
		g.plain(r, fn, i)
	}
	return true
}

func (g *frame) take(t *testing.T, kind int) value {
	t.Helper()
	v := g.stack[len(g.stack)-1]
	g.stack = g.stack[:len(g.stack)-1]
	if kind >= 0 && v.kind != kind {
		t.Fatalf("%v where %d is taken", v, kind)
	}
	return v
}

func (g *frame) put(v value) { g.stack = append(g.stack, v) }

// plain: what stays within the frame.
func (g *frame) plain(r *run, fn api.Func, i api.Instr) {
	t := r.t
	switch i.Op {
	case api.OpInt:
		g.put(zero(word))
	case api.OpNil:
		g.put(zero(i.A))
	case api.OpGet:
		g.put(g.locals[i.A])
	case api.OpSet:
		g.locals[i.A] = g.take(t, -1)
	case api.OpPop:
		g.take(t, -1)
	case api.OpDup:
		v := g.take(t, -1)
		g.put(v)
		g.put(v)
	case api.OpArith:
		g.take(t, word)
		g.take(t, word)
		g.put(zero(word))
	case api.OpSame:
		g.take(t, g.take(t, -1).kind)
		g.put(zero(word))
	case api.OpNew:
		g.put(zero(ptr(i.A)))
	case api.OpMake:
		g.take(t, word)
		g.put(zero(arr(i.A)))
	case api.OpArea:
		g.put(value{ptr(fn.Areas[i.A]), len(r.frames)})
	case api.OpLoad:
		g.put(zero(r.p.Types[(g.take(t, -1).kind-2)/2].Fields[i.A]))
	case api.OpStore:
		v, to := g.take(t, -1), g.take(t, -1)
		r.fits(v, r.p.Types[(to.kind-2)/2].Fields[i.A])
	case api.OpAddr:
		g.put(value{ptr(i.B), g.take(t, -1).home})
	case api.OpElem:
		g.take(t, word)
		g.put(zero(g.take(t, -1).kind - 1))
	case api.OpLen:
		g.take(t, -1)
		g.put(zero(word))
	case api.OpBox:
		if v := g.take(t, -1); v.home > 0 {
			t.Fatalf("%v is boxed", v)
		}
		g.put(zero(some))
	case api.OpTag:
		g.take(t, some)
		g.put(zero(word))
	case api.OpUnbox:
		g.take(t, some)
		g.put(zero(ptr(i.A)))
	case api.OpOut, api.OpPut:
		g.take(t, word)
	case api.OpStr:
		g.put(zero(arr(i.B)))
	}
}

// P5, P11.2: runs of sound programs, changed ones too, meet what Stacks and Size tell, and no pointer leaves its frame for one below.
func TestRuns(t *testing.T) {
	steps := 0
	for seed := range 3000 {
		d := newDice(seed)
		p := d.program()
		for range d.Intn(3) {
			sample.ChangeProg(d.Intn, &p)
		}
		if _, _, e := verify.Check(p); e != api.OK {
			continue
		}
		r := &run{dice: d, t: t, p: p}
		for r.enter(0, nil); steps < 1000000 && len(r.frames) < 20 && r.step() && d.Intn(200) > 0; {
			steps++
		}
	}
	if steps < 10000 {
		t.Errorf("only %d steps", steps)
	}
}
