package vm_test

import (
	"math"
	"reflect"
	"slices"
	"strings"
	"sync"
	"testing"

	"halyard/api"
	"halyard/sample"
	"halyard/verify"
	"halyard/vm"
)

// wantRejected: a machine that has ended ahead of everything.
func wantRejected(t *testing.T, p api.Prog, c api.Config) {
	t.Helper()
	m := vm.New(p, c)
	if m == nil || !reflect.DeepEqual(m.Report(), api.Report{End: api.Rejected, Out: m.Report().Out}) || len(m.Report().Out) != 0 {
		t.Fatalf("%+v; want it to be rejected; %+v", m.Report(), c)
	}
	if m.Step() || len(m.Frames()) != 0 || m.Objects() != 0 || m.Moved() != 0 || m.Run().End != api.Rejected {
		t.Fatalf("%v, %d, %d, %+v", m.Frames(), m.Objects(), m.Moved(), m.Run())
	}
}

// P12.1: programs that are not sound, whatever their fault is, and wherever.
func TestUnsound(t *testing.T) {
	for k, do := range []func(p *api.Prog){
		func(p *api.Prog) { *p = api.Prog{} },
		func(p *api.Prog) { p.Funcs = nil },
		func(p *api.Prog) { p.Types = nil },
		func(p *api.Prog) { p.Types[6].Fields = nil },
		func(p *api.Prog) { p.Types[3].Fields = []int{-1} },
		func(p *api.Prog) { p.Types[3].Fields = []int{stays(ptr(0))} },
		func(p *api.Prog) { p.Types[3].Fields = make([]int, api.MaxLocals+1) },
		func(p *api.Prog) { p.Types = slices.Repeat(p.Types[:1], api.MaxTypes+1) },
		func(p *api.Prog) { p.Funcs[0].Code = nil },
		func(p *api.Prog) { p.Funcs[0].Code = code(out) },
		func(p *api.Prog) { p.Funcs[0].Code = code(num(1)) },
		func(p *api.Prog) { p.Funcs[0].Code = code(made(7), halt) },
		func(p *api.Prog) { p.Funcs[0].Code = code(made(-1), halt) },
		func(p *api.Prog) { p.Funcs[0].Code = code(made(0), out, halt) },
		func(p *api.Prog) { p.Funcs[0].Code = code(in(0), halt) },
		func(p *api.Prog) { p.Funcs[0].Code = code(in(30), halt) },
		func(p *api.Prog) { p.Funcs[0].Code = code(halt, in(math.MaxInt)) },
		func(p *api.Prog) { p.Funcs[0].Code = code(in(api.OpJump, math.MinInt)) },
		func(p *api.Prog) { p.Funcs[0].Code = code(num(0), in(api.OpIf, 0), num(0), in(api.OpJump, 0)) },
		func(p *api.Prog) { p.Funcs[0].Params = 1 },
		func(p *api.Prog) { p.Funcs[0].Results = []int{word} },
		func(p *api.Prog) { p.Funcs[0].Areas = []int{7} },
		func(p *api.Prog) { p.Funcs[0].Locals = []int{math.MaxInt} },
		func(p *api.Prog) { p.Funcs[7].Code = append(code(pop), p.Funcs[7].Code...) },
		func(p *api.Prog) { p.Funcs[7].Params = -1 },
		func(p *api.Prog) { p.Funcs[7].Params = math.MaxInt },
		func(p *api.Prog) { p.Tables[2] = nil },
		func(p *api.Prog) { p.Tables[2] = []int{8} },
		func(p *api.Prog) { p.Tables[2] = []int{1, 2} },
		func(p *api.Prog) { p.Strs[0] = strings.Repeat("a", api.MaxLen+1) },
	} {
		p := world(halt)
		do(&p)
		if _, _, e := verify.Check(p); e == api.OK {
			t.Fatalf("program %d is sound", k)
		}
		for _, c := range append(flags(roomy()), api.Config{}, api.Config{Heap: -1, Stack: -1, Fuel: -1}) {
			wantRejected(t, p, c)
		}
	}
}

// P12.1: configurations with numbers that are too small or too great, beside each other.
func TestWrongConfigs(t *testing.T) {
	p := world(num(1), out, made(cell), pop, call(nothing), halt)
	wrong := []int{-1, api.MaxWords + 1, math.MinInt, math.MaxInt, 1 << 32, -1 << 32}
	for _, n := range wrong {
		for _, other := range []int{0, 100, api.MaxWords, n} {
			for _, c := range flags(api.Config{Heap: n, Stack: other, Fuel: 100}) {
				wantRejected(t, p, c)
			}
			wantRejected(t, p, api.Config{Heap: other, Stack: n, Fuel: 100})
			wantRejected(t, p, api.Config{Heap: other, Stack: n})
		}
	}
	for _, n := range []int{-1, math.MinInt, -1 << 32} {
		wantRejected(t, p, api.Config{Heap: 100, Stack: 100, Fuel: n})
		wantRejected(t, p, api.Config{Stack: 0, Fuel: n})
	}
	for _, heap := range []int{1, api.MaxWords - 1, api.MaxWords} {
		for _, stack := range []int{18, api.MaxWords - 1, api.MaxWords} {
			for _, fuel := range []int{7, 1 << 32, math.MaxInt} {
				ran(t, p, api.Config{Heap: heap, Stack: stack, Fuel: fuel}, report(api.Exit, "1", 7, 1))
			}
		}
	}
	ran(t, p, api.Config{}, report(api.NoStack, "", 0, 0))
	ran(t, p, api.Config{Stack: 18}, report(api.NoFuel, "", 0, 0))
}

// Lists of flags that are nil, empty, short or longer than any run.
func TestFlagLists(t *testing.T) {
	p := busy()
	want := vm.New(p, roomy()).Run()
	for _, list := range [][]bool{nil, {}, make([]bool, 0, 9), {false}, {true}, always(api.MaxSteps), make([]bool, 3*api.MaxSteps)} {
		c := roomy()
		c.Collects = list
		ran(t, p, c, want)
		c.Moves = list
		ran(t, p, c, want)
		c.Collects = nil
		ran(t, p, c, want)
	}
}

// P12.4.
func TestNil(t *testing.T) {
	var m *vm.VM
	for range 3 {
		if m.Step() || !reflect.DeepEqual(m.Run(), api.Report{}) || !reflect.DeepEqual(m.Report(), api.Report{}) || len(m.Frames()) != 0 || m.Objects() != 0 || m.Moved() != 0 {
			t.Errorf("%+v, %v, %d, %d", m.Report(), m.Frames(), m.Objects(), m.Moved())
		}
	}
}

// R1: a machine that New did not make has nothing to run.
func TestZeroMachine(t *testing.T) {
	var m vm.VM
	for range 3 {
		if m.Step() || !equal(m.Run(), api.Report{}) || !equal(m.Report(), api.Report{}) || len(m.Frames()) != 0 || m.Objects() != 0 || m.Moved() != 0 {
			t.Errorf("%+v, %v, %d, %d", m.Report(), m.Frames(), m.Objects(), m.Moved())
		}
	}
}

// Steps behind the end, whatever the end was, change nothing.
func TestBehindTheEnd(t *testing.T) {
	small := api.Config{Heap: 4, Stack: 20, Fuel: 100000, Collects: always(50), Moves: always(50)}
	for end, p := range map[int]api.Prog{
		api.Exit:     world(made(link), pop, call(nothing), num(3), out, halt),
		api.Trapped:  world(made(link), pop, call(nothing), num(3), out, num(4), in(api.OpTrap, 5)),
		api.NoFuel:   world(made(link), pop, call(nothing), in(api.OpJump, 0)),
		api.OutFull:  world(made(link), pop, call(nothing), num(-100000000000000), out, in(api.OpJump, 0)),
		api.NoMemory: world(made(link), set(aLink), call(nothing), made(link), made(link), halt),
		api.NoStack:  world(made(link), pop, call(nothing), num(5), call(deep), halt),
		api.Rejected: world(pop, halt),
	} {
		m := vm.New(p, small)
		want := m.Run()
		objects, moved := m.Objects(), m.Moved()
		if want.End != end || end != api.Rejected && (objects == 0 || moved == 0) {
			t.Fatalf("%+v; want end %d; %d objects, moved %d", want, end, objects, moved)
		}
		for range 5 {
			if m.Step() || !equal(m.Report(), want) || !equal(m.Run(), want) || len(m.Frames()) != 0 || m.Objects() != objects || m.Moved() != moved {
				t.Errorf("behind end %d: %+v, %d objects, moved %d", end, m.Report(), m.Objects(), m.Moved())
			}
		}
	}
}

// spoil changes everything that a program and a configuration have.
func spoil(p api.Prog, c api.Config) {
	for i := range sample.Spare(p.Types) {
		clear(sample.Spare(sample.Spare(p.Types)[i].Fields))
	}
	for _, f := range sample.Spare(p.Funcs) {
		clear(sample.Spare(f.Locals))
		clear(sample.Spare(f.Results))
		clear(sample.Spare(f.Areas))
		clear(sample.Spare(f.Code))
	}
	for _, items := range sample.Spare(p.Tables) {
		clear(sample.Spare(items))
	}
	clear(sample.Spare(p.Types))
	clear(sample.Spare(p.Funcs))
	clear(sample.Spare(p.Tables))
	clear(sample.Spare(p.Strs))
	for _, list := range [][]bool{c.Collects, c.Moves} {
		for i := range sample.Spare(list) {
			sample.Spare(list)[i] = !sample.Spare(list)[i]
		}
	}
}

// R4: what is handed in is neither changed nor kept, spare room included, wherever the run is when it is changed from outside.
func TestNothingIsShared(t *testing.T) {
	c := roomy()
	c.Collects, c.Moves = []bool{false, true, false}, []bool{true, false, true, false}
	whole := vm.New(busy(), c)
	want := whole.Run()
	for k := range want.Steps + 2 {
		p, d := sample.ProgInRoom(busy()), c
		d.Collects, d.Moves = sample.InRoom(true, c.Collects), sample.InRoom(true, c.Moves)
		old, all, moves := sample.ProgOpened(p), slices.Clone(sample.Spare(d.Collects)), slices.Clone(sample.Spare(d.Moves))
		m := vm.New(p, d)
		for range k {
			m.Step()
		}
		if !reflect.DeepEqual(sample.ProgOpened(p), old) || !slices.Equal(sample.Spare(d.Collects), all) || !slices.Equal(sample.Spare(d.Moves), moves) {
			t.Fatalf("behind %d steps something was changed", k)
		}
		spoil(p, d)
		if r := m.Run(); !equal(r, want) || m.Objects() != whole.Objects() || m.Moved() != whole.Moved() {
			t.Fatalf("changed behind %d steps: %+v, %d objects, moved %d; want %+v", k, r, m.Objects(), m.Moved(), want)
		}
	}
}

// R4: one list in several places of what is handed in.
func TestSharedLists(t *testing.T) {
	list := []int{word, ptr(0), word}
	flag := []bool{true, false, true}
	body := code(get(0), get(1), ret)
	f := api.Func{Params: 2, Locals: list, Results: list[:2], Areas: list[2:], Code: body}
	p := api.Prog{Types: []api.Layout{{Fields: list}, {Fields: list[2:]}}, Funcs: []api.Func{{Locals: list, Areas: list[2:], Code: code(num(4), made(0), call(1), num(1), in(api.OpDyn, 0), pop, out, halt)}, f, f}, Tables: [][]int{{1, 2}, {0}}}
	m := ran(t, p, api.Config{Heap: 3, Stack: 30, Fuel: 99, Collects: flag, Moves: flag}, report(api.Exit, "4", 8+6, 1))
	if m.Moved() != 1 {
		t.Errorf("moved %d", m.Moved())
	}
}

// R4: what is answered is new memory: it shares none with the machine or with another answer.
func TestAnswersAreNew(t *testing.T) {
	c := roomy()
	whole := vm.New(busy(), c).Run()
	m := vm.New(busy(), c)
	for more := true; more; more = m.Step() {
		want, frames := m.Report(), m.Frames()
		text, list := string(want.Out), slices.Clone(frames)
		for _, r := range []api.Report{m.Report(), m.Report()} {
			for i := range sample.Spare(r.Out) {
				sample.Spare(r.Out)[i] = '#'
			}
			for other := m.Frames(); len(other) > 0; other = other[1:] {
				other[0] = -1
			}
		}
		if string(want.Out) != text || string(m.Report().Out) != text || !slices.Equal(frames, list) || !slices.Equal(m.Frames(), list) {
			t.Fatalf("%q, %v; want %q, %v", m.Report().Out, m.Frames(), text, list)
		}
	}
	last := m.Run()
	for i := range sample.Spare(last.Out) {
		sample.Spare(last.Out)[i] = '#'
	}
	if r := m.Run(); !equal(r, whole) {
		t.Errorf("%+v; want %+v", r, whole)
	}
}

// R5: machines have nothing in common, even of the same program, one step at a time or all at once.
func TestTwoMachines(t *testing.T) {
	p, c := busy(), roomy()
	want := vm.New(p, c).Run()
	a, b := vm.New(p, c), vm.New(p, c)
	for k := 0; a.Step(); k++ {
		if k%2 == 0 {
			b.Step()
		}
	}
	if !equal(a.Report(), want) || b.Report().End != api.Running || !equal(b.Run(), want) {
		t.Errorf("%+v, %+v", a.Report(), b.Report())
	}
	var all sync.WaitGroup
	for k := range 8 {
		all.Go(func() {
			for range 20 {
				d := flags(c)[k%4]
				if r := vm.New(p, d).Run(); !equal(r, want) {
					t.Errorf("%+v", r)
				}
			}
		})
	}
	all.Wait()
}
