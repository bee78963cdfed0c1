package vm_test

import (
	"bytes"
	"math/rand"
	"slices"
	"testing"

	"halyard/api"
	encoding "halyard/code"
	"halyard/verify"
	"halyard/vm"
)

// dice makes random programs that are sound, do much and seldom trap.
type dice struct{ *rand.Rand }

func newDice(seed int) dice { return dice{rand.New(rand.NewSource(int64(seed)))} }

// rare: once in n times.
func (d dice) rare(n int) bool { return d.Intn(n) == 0 }

// kind: any one; a free one has no Local.
func (d dice) kind(types int, free bool) int {
	t := d.Intn(types)
	switch k := d.Intn(12); {
	case k < 3:
		return word
	case k < 5:
		return some
	case k < 8:
		return ptr(t)
	case k < 10 || free:
		return arr(t)
	case k < 11:
		return stays(ptr(t))
	}
	return stays(arr(t))
}

func (d dice) kinds(types, most int, free bool) []int {
	list := make([]int, d.Intn(most+1))
	for i := range list {
		list[i] = d.kind(types, free)
	}
	return list
}

// program: functions call those that stand behind them; seldom others, so that few runs have no end.
func (d dice) program() api.Prog {
	p := api.Prog{Strs: []string{"a", "", "xyz"}}
	many := 2 + d.Intn(5)
	for range many {
		p.Types = append(p.Types, api.Layout{Fields: append(d.kinds(many, 3, true), d.kind(many, true))})
	}
	p.Types[0].Fields = []int{word}
	p.Types[1].Fields = []int{word, ptr(1)}
	for f := range 1 + d.Intn(5) {
		fn := api.Func{Locals: d.kinds(many, 6, false)}
		if f > 0 {
			fn.Params, fn.Results = d.Intn(min(4, len(fn.Locals)+1)), d.kinds(many, 2, true)
		}
		for range d.Intn(4) {
			fn.Areas = append(fn.Areas, d.Intn(many))
		}
		p.Funcs = append(p.Funcs, fn)
		if f > 0 && d.rare(2) {
			fn.Areas = nil
			p.Funcs = append(p.Funcs, fn)
			p.Tables = append(p.Tables, []int{len(p.Funcs) - 1, len(p.Funcs) - 2, len(p.Funcs) - 1})
		}
	}
	for f := range p.Funcs {
		m := &maker{dice: d, p: p, f: f, fn: p.Funcs[f], left: 12 + d.Intn(30)}
		m.function()
		p.Funcs[f].Code, p.Funcs[f].Locals = m.list, m.fn.Locals
	}
	return p
}

// maker makes a function's code; it knows what is on the stack.
type maker struct {
	dice
	p     api.Prog
	f     int
	fn    api.Func
	list  []api.Instr
	stack []int
	left  int // how many statements there may still be
	calls int // how many calls there are
}

func (m *maker) emit(i api.Instr, takes int, puts ...int) {
	m.list = append(m.list, i)
	m.stack = append(slices.Clone(m.stack[:len(m.stack)-takes]), puts...)
}

func (m *maker) function() {
	m.fn.Locals = slices.Clone(m.fn.Locals)
	for i := m.fn.Params; i < len(m.fn.Locals); i++ {
		if !m.rare(20) {
			m.fits(m.fn.Locals[i], 1)
			m.emit(set(i), 1)
		}
	}
	for m.left > 0 {
		m.statement(3)
	}
	switch {
	case m.f == 0 && m.rare(3):
		m.emit(halt, 0)
	case m.rare(30):
		m.put(word, 1)
		m.emit(in(api.OpTrap, m.Intn(9)), 1)
	default:
		for _, k := range m.fn.Results {
			m.put(k, 2)
		}
		m.emit(ret, len(m.stack))
	}
}

// one carries out one of these.
func (m *maker) one(ways []func()) { ways[m.Intn(len(ways))]() }

// put: a value of a kind.
func (m *maker) put(k, deep int) {
	for i, kind := range m.fn.Locals {
		if kind == k && m.rare(2) {
			m.emit(get(i), 0, k)
			return
		}
	}
	t := (k%api.Local - 2) / 2
	var ways []func()
	if deep > 0 {
		ways = m.loads(k, deep-1)
	}
	switch {
	case k == word:
		ways = append(ways, func() { m.emit(num(m.Intn(20)-5), 0, k) })
		if deep > 0 {
			ways = append(ways, m.numbers(deep-1)...)
		}
	case k == some:
		ways = append(ways, func() {
			t := m.Intn(len(m.p.Types))
			m.put(ptr(t), deep-1)
			m.emit(in(api.OpBox), 1, some)
		})
	case k >= api.Local:
		if at := slices.Index(m.fn.Areas, t); at >= 0 && k%2 == 0 {
			ways = append(ways, func() { m.emit(area(at), 0, k) }, func() { m.emit(area(at), 0, k) })
		}
	case k%2 == 0:
		ways = append(ways, func() { m.emit(made(t), 0, k) })
		if deep > 0 {
			ways = append(ways, func() {
				m.put(ptr(t), deep-1)
				m.emit(in(api.OpBox), 1, some)
				m.emit(in(api.OpUnbox, t), 1, k)
			})
		}
	default:
		ways = append(ways, func() {
			m.emit(num(1+m.Intn(4)), 0, word)
			m.emit(in(api.OpMake, t), 1, k)
		})
		if slices.Equal(m.p.Types[t].Fields, []int{word}) {
			ways = append(ways, func() { m.emit(in(api.OpStr, m.Intn(3), t), 0, k) })
		}
	}
	if k != word && (len(ways) == 0 || m.rare(25)) {
		m.emit(in(api.OpNil, k), 0, k)
		return
	}
	m.one(ways)
}

// loads: ways to a value of a kind by way of pointers, arrays and calls.
func (m *maker) loads(k, deep int) []func() {
	var ways []func()
	t := (k%api.Local - 2) / 2
	near := k / api.Local * api.Local
	for of, l := range m.p.Types {
		for a, kind := range l.Fields {
			if kind == k {
				ways = append(ways, func() {
					m.solid(m.near(ptr(of)), deep)
					m.emit(load(a), 1, k)
				})
			}
			if k != word && k != some && k%2 == 0 && slices.Equal(m.p.Types[t].Fields, []int{kind}) && (near == 0 || m.hasNear(ptr(of))) {
				ways = append(ways, func() {
					m.solid(near+ptr(of), deep)
					m.emit(in(api.OpAddr, a, t), 1, k)
				})
			}
		}
	}
	if k != word && k != some && k%2 == 0 && near == 0 {
		ways = append(ways, func() { m.element(t, deep) })
	}
	for f := m.f + 1; f < len(m.p.Funcs); f++ {
		if slices.Equal(m.p.Funcs[f].Results, []int{k}) {
			ways = append(ways, func() { m.call(f, deep) })
		}
	}
	return ways
}

func (m *maker) element(t, deep int) {
	m.solid(arr(t), deep)
	m.emit(dup, 1, arr(t), arr(t))
	m.emit(in(api.OpLen), 1, word)
	at := len(m.list)
	m.emit(in(api.OpIf, at+4), 1)
	m.emit(pop, 1)
	m.emit(num(2), 0, word)
	m.emit(in(api.OpMake, t), 1, arr(t))
	m.emit(num(0-m.Intn(40)/39), 0, word)
	m.emit(in(api.OpElem), 2, ptr(t))
}

// near: the kind with Local, if there is something near of it.
func (m *maker) near(kind int) int {
	if (m.hasNear(kind) || slices.Contains(m.fn.Locals, stays(kind))) && m.rare(2) {
		return stays(kind)
	}
	return kind
}

// solid: a pointer or array that is not nil, as far as one can be made in its stead.
func (m *maker) solid(k, deep int) {
	m.put(k, deep)
	if k >= api.Local || m.rare(40) {
		return
	}
	m.emit(dup, 1, k, k)
	m.emit(in(api.OpNil, k), 0, k)
	m.emit(same, 2, word)
	at := len(m.list)
	m.emit(in(api.OpIf, at+2), 1)
	m.emit(in(api.OpJump), 0)
	m.emit(pop, 1)
	if k%2 == 0 {
		m.emit(made((k-2)/2), 0, k)
	} else {
		m.emit(num(3), 0, word)
		m.emit(in(api.OpMake, (k-2)/2), 1, k)
	}
	m.list[at+1].A = len(m.list)
}

// numbers: ways to a number of others, and of what is no number.
func (m *maker) numbers(deep int) []func() {
	t := m.Intn(len(m.p.Types))
	return []func(){
		func() {
			op := m.Intn(10)
			m.put(word, deep)
			if op == api.Div || op == api.Mod {
				m.emit(num(m.Intn(30)-1), 0, word)
			} else {
				m.put(word, deep)
			}
			m.emit(in(api.OpArith, op), 2, word)
		},
		func() {
			m.put(m.near(arr(t)), deep)
			m.emit(in(api.OpLen), 1, word)
		},
		func() {
			m.put(some, deep)
			m.emit(in(api.OpTag), 1, word)
		},
		func() {
			k := m.kind(len(m.p.Types), false)
			if k == word {
				k = some
			}
			m.put(k, deep)
			m.fits(k, deep)
			m.emit(same, 2, word)
		},
	}
}

// fits: what fits a kind.
func (m *maker) fits(k, deep int) {
	if k >= api.Local && (m.rare(2) || !m.hasNear(k)) {
		k -= api.Local
	}
	m.put(k, deep)
}

// hasNear: is there something near of a kind?
func (m *maker) hasNear(k int) bool {
	return k%2 == 0 && slices.Contains(m.fn.Areas, (k%api.Local-2)/2)
}

func (m *maker) call(f, deep int) {
	fn := m.p.Funcs[f]
	m.calls++
	table := slices.IndexFunc(m.p.Tables, func(items []int) bool { return slices.Contains(items, f) })
	for _, k := range fn.Locals[:fn.Params] {
		m.fits(k, deep)
	}
	if table < 0 || m.rare(2) {
		m.emit(call(f), fn.Params, fn.Results...)
		return
	}
	m.emit(num(m.Intn(3)+m.Intn(30)/29), 0, word)
	m.emit(in(api.OpDyn, table), fn.Params+1, fn.Results...)
}

func (m *maker) block(deep int) {
	for range 1 + m.Intn(4) {
		m.statement(deep)
	}
}

func (m *maker) statement(deep int) {
	m.left--
	t := m.Intn(len(m.p.Types))
	fields := m.p.Types[t].Fields
	a := m.Intn(len(fields))
	switch k := m.Intn(16); {
	case k < 3 && len(m.fn.Locals) > 0:
		i := m.Intn(len(m.fn.Locals))
		if m.fn.Locals[i] != word {
			m.fits(m.fn.Locals[i], 2)
			m.emit(set(i), 1)
		}
	case k < 7:
		m.solid(m.near(ptr(t)), 2)
		m.put(fields[a], 2)
		m.emit(store(a), 2)
	case k < 9:
		m.put(word, 3)
		m.emit([]api.Instr{out, out, in(api.OpPut)}[m.Intn(3)], 1)
	case k < 11 && m.calls < 6:
		f := m.f + 1
		if m.rare(20) {
			f = 0
		}
		if f += m.Intn(len(m.p.Funcs)); f < len(m.p.Funcs) {
			before := len(m.stack)
			m.call(f, 2)
			for len(m.stack) > before {
				m.emit(pop, 1)
			}
		}
	case deep > 0:
		m.nested(deep - 1)
	}
}

// nested: statements that are gone round, gone through some times, or have something below them on the stack.
func (m *maker) nested(deep int) {
	switch m.Intn(4) {
	case 0:
		m.put(word, 2)
		at := len(m.list)
		m.emit(in(api.OpIf), 1)
		m.block(deep)
		end := len(m.list)
		m.emit(in(api.OpJump), 0)
		m.list[at].A = len(m.list)
		if m.rare(2) {
			m.block(deep)
		}
		m.list[end].A = len(m.list)
	case 1:
		counter := len(m.fn.Locals)
		m.fn.Locals = append(m.fn.Locals, word)
		m.emit(num(1+m.Intn(3)), 0, word)
		m.emit(set(counter), 1)
		start := len(m.list)
		m.block(deep)
		m.emit(get(counter), 0, word)
		m.emit(num(1), 0, word)
		m.emit(in(api.OpArith, api.Sub), 2, word)
		m.emit(dup, 1, word, word)
		m.emit(set(counter), 1)
		m.emit(in(api.OpIf, start), 1)
	default:
		m.put(m.kind(len(m.p.Types), false), 2)
		m.block(deep)
		m.emit(pop, 1)
	}
}

func (d dice) flags(n int) []bool {
	list := make([]bool, d.Intn(n))
	often := 1 + d.Intn(4)
	for i := range list {
		list[i] = d.rare(often)
	}
	return list
}

func (d dice) config() api.Config {
	pick := func(list ...int) int { return list[d.Intn(len(list))] }
	return api.Config{
		Heap:     pick(d.Intn(30), 20+d.Intn(60), 50+d.Intn(200), 1000, 4000),
		Stack:    pick(d.Intn(100), 50+d.Intn(200), 1000, 4000),
		Fuel:     pick(d.Intn(500), 2000, 2000, 5000),
		Collects: d.flags(200), Moves: d.flags(100),
	}
}

// Random programs with random configurations, held against the second machine.
func TestRandom(t *testing.T) {
	t.Parallel()
	met, ops, moved, gone := map[[2]int]int{}, map[int]int{}, 0, 0
	for seed := range 2500 {
		d := newDice(seed)
		p := d.program()
		if f, at, e := verify.Check(p); e != api.OK {
			t.Fatalf("seed %d is not sound: %d at %d, %d; %s", seed, e, f, at, told(p))
		}
		s := hold(t, p, d.config())
		met[[2]int{s.report.End, s.report.Trap}]++
		moved += s.moved
		gone += s.report.Allocs - len(s.objects)
		for _, fn := range p.Funcs {
			for _, i := range fn.Code {
				ops[i.Op]++
			}
		}
	}
	for _, end := range [][2]int{{api.Exit, 0}, {api.NoFuel, 0}, {api.NoMemory, 0}, {api.NoStack, 0}, {api.Trapped, api.TrapNil}, {api.Trapped, api.TrapZero}, {api.Trapped, api.TrapRange}} {
		if met[end] < 10 {
			t.Errorf("end %v was met %d times: %v", end, met[end], met)
		}
	}
	for op := api.OpInt; op <= api.OpStr; op++ {
		if ops[op] < 100 {
			t.Errorf("operation %d stands there %d times", op, ops[op])
		}
	}
	if moved < 2000 || gone < 2000 {
		t.Errorf("moved %d, %d objects gone", moved, gone)
	}
}

// P12.5: whatever Collects and Moves say, a run is the same but for NoMemory; and, P8, with less fuel it is a beginning of it.
func TestRandomFlags(t *testing.T) {
	t.Parallel()
	same := 0
	for seed := range 700 {
		d := newDice(seed + 100000)
		p := d.program()
		c := d.config()
		c.Collects, c.Moves = nil, nil
		want := vm.New(p, c).Run()
		for range 4 {
			other := c
			other.Collects, other.Moves = d.flags(300), d.flags(100)
			r := vm.New(p, other).Run()
			if r.End == api.NoMemory || want.End == api.NoMemory {
				short, long := r, want
				if len(short.Out) > len(long.Out) {
					short, long = long, short
				}
				if !bytes.HasPrefix(long.Out, short.Out) {
					t.Fatalf("seed %d: %q and %q", seed, r.Out, want.Out)
				}
				continue
			}
			same++
			if !equal(r, want) {
				t.Fatalf("seed %d: %+v; want %+v; %+v, %s", seed, r, want, other, told(p))
			}
		}
		for range 4 {
			less := c
			less.Fuel = d.Intn(want.Steps + 1)
			r := vm.New(p, less).Run()
			if less.Fuel == want.Steps && !equal(r, want) && want.End != api.NoMemory && want.End != api.NoStack && want.End != api.OutFull {
				t.Fatalf("seed %d: %+v; want %+v", seed, r, want)
			}
			if less.Fuel < want.Steps && (r.End != api.NoFuel || r.Steps != less.Fuel || !bytes.HasPrefix(want.Out, r.Out) || r.Allocs > want.Allocs || r.Trap != 0 || r.Value != 0) {
				t.Fatalf("seed %d with fuel %d: %+v; want a beginning of %+v", seed, less.Fuel, r, want)
			}
		}
	}
	if same < 1000 {
		t.Errorf("only %d runs to the same end", same)
	}
}

// P5: programs with a change are rejected just if layer 11 finds a fault; those that are still sound run as the second machine does.
func TestRandomChanged(t *testing.T) {
	t.Parallel()
	met := map[bool]int{}
	for seed := range 4000 {
		d := newDice(seed + 200000)
		p := d.program()
		list := p.Funcs[d.Intn(len(p.Funcs))].Code
		for range 1 + d.Intn(2) {
			i := &list[d.Intn(len(list))]
			switch d.Intn(5) {
			case 0:
				i.Op = 1 + d.Intn(29)
			case 1, 2:
				i.A += d.Intn(7) - 3
			case 3:
				i.B += d.Intn(3) - 1
			case 4:
				j := &list[d.Intn(len(list))]
				*i, *j = *j, *i
			}
		}
		c := d.config()
		_, _, e := verify.Check(p)
		met[e == api.OK]++
		if s := hold(t, p, c); (s.report.End == api.Rejected) != (e != api.OK) {
			t.Fatalf("seed %d: %+v, %d", seed, s.report, e)
		}
	}
	if met[true] < 1000 || met[false] < 1000 {
		t.Errorf("%v", met)
	}
}

// FuzzRun holds programs, as bytes of layer 10, against the second machine.
func FuzzRun(f *testing.F) {
	for seed, p := range []api.Prog{busy(), world(out), {}, newDice(1).program(), newDice(7).program()} {
		b, _ := encoding.Encode(p)
		f.Add(b, int64(seed))
	}
	f.Fuzz(func(t *testing.T, b []byte, seed int64) {
		p, e := encoding.Decode(b)
		if e != api.OK {
			return
		}
		hold(t, p, newDice(int(seed)).config())
	})
}
