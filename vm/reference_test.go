package vm_test

import (
	"cmp"
	"slices"
	"strconv"
	"testing"

	"halyard/api"
	"halyard/arena"
	"halyard/verify"
	"halyard/vm"
)

// second is a second machine: its pointers are Go's own, into blocks that know no addresses; kinds are those that layer 11 tells ahead of each instruction; what stays is marked along the pointers. Only whether there is room for an object is asked of an arena.
type second struct {
	p       api.Prog
	c       api.Config
	stacks  [][][]int // of the instructions of each function that has been called
	sizes   []int     // of their frames
	room    *arena.Arena
	objects []*block
	frames  []*act
	words   int // of all frames
	calls   int
	moved   int
	report  api.Report
}

// block is an object or an area.
type block struct {
	addr  int // of an object in the arena
	width int // how many data an element has
	n     int // how many elements there are
	data  []datum
	stays bool
}

// datum is a number, or names one of a block's data. An Any names the first one of its box: a number and a pointer.
type datum struct {
	n  int
	to *block
	at int
}

type act struct {
	f, at  int
	locals []datum
	areas  []*block
	stack  []datum
}

func newSecond(p api.Prog, c api.Config) *second {
	s := &second{p: p, c: c}
	_, _, e := verify.Check(p)
	room, full := arena.New(c.Heap)
	if e != api.OK || full != api.OK || c.Stack < 0 || c.Stack > 65536 || c.Fuel < 0 {
		s.report.End = api.Rejected
		return s
	}
	s.room = room
	s.stacks, s.sizes = make([][][]int, len(p.Funcs)), make([]int, len(p.Funcs))
	s.enter(0, nil)
	return s
}

// end: the run has ended.
func (s *second) end(end, trap, value int) {
	s.report.End, s.report.Trap, s.report.Value = end, trap, value
	s.frames = nil
}

func (s *second) trap(number int) { s.end(api.Trapped, number, 0) }

// enter: false, if there is no room for the frame.
func (s *second) enter(f int, args []datum) bool {
	fn := s.p.Funcs[f]
	if s.stacks[f] == nil {
		s.stacks[f], _, _ = verify.Stacks(s.p, f)
		s.sizes[f], _ = verify.Size(s.p, f)
	}
	if len(s.frames) == 1000 || s.words+s.sizes[f] > s.c.Stack {
		s.end(api.NoStack, 0, 0)
		return false
	}
	s.words += s.sizes[f]
	a := &act{f: f, locals: append(slices.Clone(args), make([]datum, len(fn.Locals)-len(args))...)}
	for _, t := range fn.Areas {
		width := len(s.p.Types[t].Fields)
		a.areas = append(a.areas, &block{width: width, n: 1, data: make([]datum, width)})
	}
	s.frames = append(s.frames, a)
	return true
}

func (s *second) step() bool {
	if len(s.frames) == 0 {
		return false
	}
	if s.report.Steps == s.c.Fuel || s.report.Steps == 2000000 {
		s.end(api.NoFuel, 0, 0)
		return false
	}
	a := s.frames[len(s.frames)-1]
	a.at++
	s.instruction(a, s.p.Funcs[a.f].Code[a.at-1])
	switch s.report.End {
	case api.Running, api.Exit, api.Trapped:
		s.report.Steps++
	}
	return s.report.End == api.Running
}

func (a *act) put(d datum) { a.stack = append(a.stack, d) }

func (a *act) truth(holds bool) {
	if holds {
		a.put(datum{n: 1})
	} else {
		a.put(datum{})
	}
}

func (a *act) take() datum {
	d := a.stack[len(a.stack)-1]
	a.stack = a.stack[:len(a.stack)-1]
	return d
}

func (s *second) instruction(a *act, i api.Instr) {
	switch i.Op {
	case api.OpInt:
		a.put(datum{n: i.A})
	case api.OpNil:
		a.put(datum{})
	case api.OpGet:
		a.put(a.locals[i.A])
	case api.OpSet:
		a.locals[i.A] = a.take()
	case api.OpPop:
		a.take()
	case api.OpDup:
		a.put(a.stack[len(a.stack)-1])
	case api.OpArith:
		y, x := a.take().n, a.take().n
		if y == 0 && (i.A == api.Div || i.A == api.Mod) {
			s.trap(api.TrapZero)
			return
		}
		a.put(datum{n: reckoned(i.A, x, y)})
	case api.OpSame:
		s.same(a)
	case api.OpJump:
		a.at = i.A
	case api.OpIf:
		if a.take().n != 0 {
			a.at = i.A
		}
	case api.OpArea:
		a.put(datum{to: a.areas[i.A]})
	case api.OpLoad, api.OpStore, api.OpAddr, api.OpElem:
		s.access(a, i)
	case api.OpLen:
		if d := a.take(); d.to == nil {
			a.put(datum{})
		} else {
			a.put(datum{n: d.to.n})
		}
	case api.OpTag:
		if d := a.take(); d.to == nil {
			a.put(datum{n: -1})
		} else {
			a.put(d.to.data[0])
		}
	case api.OpUnbox:
		if d := a.take(); d.to == nil || d.to.data[0].n != i.A {
			s.trap(api.TrapKind)
		} else {
			a.put(d.to.data[1])
		}
	case api.OpNew, api.OpMake, api.OpStr, api.OpBox:
		s.create(a, i)
	case api.OpCall, api.OpDyn, api.OpRet:
		s.transfer(a, i)
	case api.OpOut:
		s.write(strconv.FormatInt(int64(a.take().n), 10))
	case api.OpPut:
		s.write(string([]byte{byte(a.take().n & 255)}))
	case api.OpTrap:
		s.end(api.Trapped, i.A, a.take().n)
	case api.OpHalt:
		s.end(api.Exit, 0, 0)
	}
}

func (s *second) same(a *act) {
	list := s.stacks[a.f][a.at-1]
	y, x := a.take(), a.take()
	if list[len(list)-1] == some && x.to != nil && y.to != nil {
		a.truth(x.to.data[0].n == y.to.data[0].n && x.to.data[1] == y.to.data[1])
	} else {
		a.truth(x == y)
	}
}

func (s *second) access(a *act, i api.Instr) {
	var v datum
	if i.Op == api.OpStore || i.Op == api.OpElem {
		v = a.take()
	}
	d := a.take()
	if d.to == nil {
		s.trap(api.TrapNil)
		return
	}
	switch i.Op {
	case api.OpLoad:
		a.put(d.to.data[d.at+i.A])
	case api.OpStore:
		d.to.data[d.at+i.A] = v
	case api.OpAddr:
		a.put(datum{to: d.to, at: d.at + i.A})
	case api.OpElem:
		if v.n < 0 || v.n >= d.to.n {
			s.trap(api.TrapRange)
		} else {
			a.put(datum{to: d.to, at: v.n * d.to.width})
		}
	}
}

func (s *second) create(a *act, i api.Instr) {
	t, n := i.A, 1
	switch i.Op {
	case api.OpMake:
		n = a.take().n
		if n < 0 {
			s.trap(api.TrapRange)
			return
		}
		if n > 1024 {
			s.trap(api.TrapLarge)
			return
		}
	case api.OpStr:
		t, n = i.B, len(s.p.Strs[i.A])
	case api.OpBox:
		list := s.stacks[a.f][a.at-1]
		t = (list[len(list)-1] - 2) / 2
	}
	width := 2
	if i.Op != api.OpBox {
		width = len(s.p.Types[t].Fields)
	}
	b := s.object(width, n)
	if b == nil {
		s.end(api.NoMemory, 0, 0)
		return
	}
	switch i.Op {
	case api.OpStr:
		for k, c := range []byte(s.p.Strs[i.A]) {
			b.data[k].n = int(c)
		}
	case api.OpBox:
		b.data[0], b.data[1] = datum{n: t}, a.take()
	}
	a.put(datum{to: b})
}

// object: nil, if there is no room for it.
func (s *second) object(width, n int) *block {
	if s.report.Allocs < len(s.c.Collects) && s.c.Collects[s.report.Allocs] {
		s.collect()
	}
	addr, e := s.room.Alloc(max(1, width*n))
	if e == api.ErrFull {
		s.collect()
		addr, e = s.room.Alloc(max(1, width*n))
	}
	if e != api.OK {
		return nil
	}
	b := &block{addr: addr, width: width, n: n, data: make([]datum, width*n)}
	s.objects = append(s.objects, b)
	s.report.Allocs++
	return b
}

func (s *second) collect() {
	for _, b := range s.objects {
		b.stays = false
	}
	for _, a := range s.frames {
		mark(a.locals)
		mark(a.stack)
		for _, b := range a.areas {
			mark(b.data)
		}
	}
	slices.SortFunc(s.objects, func(a, b *block) int { return cmp.Compare(a.addr, b.addr) })
	s.objects = slices.DeleteFunc(s.objects, func(b *block) bool {
		if !b.stays {
			s.room.Free(b.addr)
		}
		return !b.stays
	})
}

func mark(list []datum) {
	for _, d := range list {
		if d.to != nil && d.to.addr > 0 && !d.to.stays {
			d.to.stays = true
			mark(d.to.data)
		}
	}
}

func (s *second) transfer(a *act, i api.Instr) {
	f := i.A
	switch i.Op {
	case api.OpRet:
		s.words -= s.sizes[a.f]
		s.frames = s.frames[:len(s.frames)-1]
		if len(s.frames) == 0 {
			s.end(api.Exit, 0, 0)
			return
		}
		to := s.frames[len(s.frames)-1]
		to.stack = append(to.stack, a.stack...)
		return
	case api.OpDyn:
		k := a.take().n
		if k < 0 || k >= len(s.p.Tables[i.A]) {
			s.trap(api.TrapRange)
			return
		}
		f = s.p.Tables[i.A][k]
	}
	n := len(a.stack) - s.p.Funcs[f].Params
	args := slices.Clone(a.stack[n:])
	a.stack = a.stack[:n]
	if s.enter(f, args) {
		if s.calls < len(s.c.Moves) && s.c.Moves[s.calls] {
			s.moved++
		}
		s.calls++
	}
}

func (s *second) write(text string) {
	room := 16384 - len(s.report.Out)
	if len(text) > room {
		text = text[:room]
		defer s.end(api.OutFull, 0, 0)
	}
	s.report.Out = append(s.report.Out, text...)
}

// look holds all that can be asked of a machine against the second one.
func (s *second) look(t *testing.T, m *vm.VM) {
	t.Helper()
	var frames []int
	for _, a := range s.frames {
		frames = append(frames, a.f)
	}
	if r := m.Report(); !equal(r, s.report) || !slices.Equal(m.Frames(), frames) || m.Objects() != len(s.objects) || m.Moved() != s.moved {
		t.Fatalf("%+v, frames %v, %d objects, moved %d;\nwant %+v, frames %v, %d objects, moved %d;\n%+v, %s", r, m.Frames(), m.Objects(), m.Moved(), s.report, frames, len(s.objects), s.moved, s.c, told(s.p))
	}
}

// hold: a run of both, step by step, with a look behind each of the first steps and at the end; and one run without a stop.
func hold(t *testing.T, p api.Prog, c api.Config) *second {
	t.Helper()
	m, s := vm.New(p, c), newSecond(p, c)
	s.look(t, m)
	for more := true; more; {
		more = s.step()
		if got := m.Step(); got != more {
			t.Fatalf("Step: %v; %+v, want %+v; %+v, %s", got, m.Report(), s.report, c, told(p))
		}
		if s.report.Steps < 400 || !more {
			s.look(t, m)
		}
	}
	m = vm.New(p, c)
	m.Run()
	s.look(t, m)
	return s
}

// The second machine itself, at programs whose reports are known.
func TestSecond(t *testing.T) {
	for _, c := range flags(roomy()) {
		hold(t, busy(), c)
		for _, heap := range []int{0, 3, 6, 9, 14} {
			c.Heap = heap
			hold(t, busy(), c)
		}
		c.Stack = 25
		hold(t, busy(), c)
	}
	if s := hold(t, busy(), roomy()); s.report.End != api.Exit || string(s.report.Out) != "1234384516A" {
		t.Errorf("%q, %+v", s.report.Out, s.report)
	}
	hold(t, world(out), roomy())
	hold(t, world(halt), api.Config{Stack: -1})
	hold(t, world(num(-12345), out, in(api.OpJump, 0)), api.Config{Stack: 99, Fuel: 100000})
}
