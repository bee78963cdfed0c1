package vm_test

import (
	"math"
	"strings"
	"testing"

	"halyard/api"
	"halyard/vm"
)

// busy is a program that does something of everything.
func busy() api.Prog {
	return world(join(
		code(num(12), out, made(link), dup, num(34), store(0), call(grow), dup, load(1), load(0), out, pop),
		code(num(3), call(deep), out, num(2), num(1), in(api.OpDyn), out, in(api.OpStr, 1, cell), in(api.OpLen), out),
		code(area(2), num(51), store(3), area(2), load(3), out),
		code(in(api.OpNil, ptr(pair)), in(api.OpBox), in(api.OpTag), out, num(65), in(api.OpPut), halt))...)
}

// P12.2, P8: with each fuel the run is a beginning of the whole one, and only NoFuel becomes another end.
func TestEachFuel(t *testing.T) {
	for _, last := range []api.Instr{halt, ret, in(api.OpTrap, 3), in(api.OpUnbox, cell)} {
		p := busy()
		list := p.Funcs[0].Code
		put := num(8)
		if last.Op == api.OpUnbox {
			put = in(api.OpNil, some)
		}
		p.Funcs[0].Code = append(list[:len(list)-1:len(list)-1], put, pop, put, last, halt)
		if last.Op == api.OpRet {
			p.Funcs[0].Code = append(list[:len(list)-1:len(list)-1], last)
		}
		for _, c := range flags(roomy()) {
			everyFuel(t, p, c)
		}
	}
}

func everyFuel(t *testing.T, p api.Prog, c api.Config) {
	t.Helper()
	whole := vm.New(p, c).Run()
	if whole.End != api.Exit && whole.End != api.Trapped {
		t.Fatalf("%+v", whole)
	}
	m := vm.New(p, c)
	for fuel := range whole.Steps {
		c.Fuel = fuel
		want := m.Report()
		if want.End != api.Running || want.Steps != fuel {
			t.Fatalf("behind %d steps: %+v", fuel, want)
		}
		want.End = api.NoFuel
		short := ran(t, p, c, want)
		if short.Objects() != m.Objects() || short.Moved() != m.Moved() {
			t.Fatalf("fuel %d: %d objects, moved %d", fuel, short.Objects(), short.Moved())
		}
		if more := m.Step(); more != (fuel < whole.Steps-1) {
			t.Fatalf("step %d: %v", fuel, more)
		}
	}
	for _, fuel := range []int{whole.Steps, whole.Steps + 1, api.MaxSteps, api.MaxSteps + 1, math.MaxInt} {
		c.Fuel = fuel
		ran(t, p, c, whole)
	}
}

// P12.2: the step that ends with NoFuel answers false, and is none.
func TestNoFuel(t *testing.T) {
	c := roomy()
	c.Fuel = 0
	m := vm.New(world(halt), c)
	if r := m.Report(); r.End != api.Running || len(m.Frames()) != 1 {
		t.Errorf("ahead of the first step: %+v", r)
	}
	if m.Step() || !equal(m.Report(), report(api.NoFuel, "", 0, 0)) || len(m.Frames()) != 0 {
		t.Errorf("%+v", m.Report())
	}
	c.Fuel = 2
	m = vm.New(world(in(api.OpJump, 0)), c)
	for k, more := range []bool{true, true, false, false} {
		if got := m.Step(); got != more || m.Report().Steps != min(k+1, 2) {
			t.Errorf("step %d: %v, %+v", k, got, m.Report())
		}
	}
	if r := m.Report(); r.End != api.NoFuel {
		t.Errorf("%+v", r)
	}
}

// counting is a program whose run has just so many steps, from 9 on.
func counting(steps int) api.Prog {
	list := code(num((steps-3)/6), set(aWord), get(aWord), num(1), in(api.OpArith, api.Sub), dup, set(aWord), in(api.OpIf, 2))
	for range (steps - 3) % 6 {
		list = append(list, in(api.OpJump, len(list)+1))
	}
	return world(append(list, halt)...)
}

// P12.2: Fuel above MaxSteps is MaxSteps.
func TestMaxSteps(t *testing.T) {
	c := api.Config{Stack: 99}
	for _, fuel := range []int{api.MaxSteps - 1, api.MaxSteps, api.MaxSteps + 1, math.MaxInt} {
		most := min(fuel, api.MaxSteps)
		c.Fuel = fuel
		ran(t, world(in(api.OpJump, 0)), c, report(api.NoFuel, "", most, 0))
		ran(t, counting(most), c, report(api.Exit, "", most, 0))
		ran(t, counting(most+1), c, report(api.NoFuel, "", most, 0))
	}
}

// P12.2: what ends a run for want of something is no step, and what it would have done is not there.
func TestWantsAreNoSteps(t *testing.T) {
	c := api.Config{Heap: 3, Stack: 18, Fuel: 100}
	ran(t, world(made(link), made(link), halt), c, report(api.NoMemory, "", 1, 1))
	ran(t, world(num(5), call(cube), halt), c, report(api.NoStack, "", 1, 0))
	p := world(num(1), in(api.OpPut), in(api.OpJump, 0))
	c.Fuel = math.MaxInt
	ran(t, p, c, report(api.OutFull, strings.Repeat("\x01", api.MaxOut), 3*api.MaxOut+1, 0))
}
