package vm_test

import (
	"math"
	"testing"

	"halyard/api"
)

// TrapNil: of each instruction that asks for what a pointer names, be it near or not.
func TestTrapNil(t *testing.T) {
	null := func(kind int) api.Instr { return in(api.OpNil, kind) }
	for _, near := range []int{0, api.Local} {
		wantTrap(t, api.TrapNil, 0, null(near+ptr(cell)), load(0))
		wantTrap(t, api.TrapNil, 0, null(near+ptr(mixed)), load(3))
		wantTrap(t, api.TrapNil, 0, null(near+ptr(cell)), num(1), store(0))
		wantTrap(t, api.TrapNil, 0, null(near+ptr(link)), null(ptr(link)), store(1))
		wantTrap(t, api.TrapNil, 1, null(near+ptr(link)), made(link), store(1))
		wantTrap(t, api.TrapNil, 0, null(near+ptr(pair)), in(api.OpAddr, 0, cell))
		wantTrap(t, api.TrapNil, 0, null(near+ptr(pair)), in(api.OpAddr, 1, cell))
		wantTrap(t, api.TrapNil, 0, null(near+arr(link)), num(0), in(api.OpElem))
	}
	wantTrap(t, api.TrapNil, 1, made(link), load(1), load(1))
	wantTrap(t, api.TrapNil, 0, area(0), load(1), load(0))
	wantTrap(t, api.TrapNil, 1, null(ptr(pair)), in(api.OpBox), in(api.OpUnbox, pair), load(1))
}

// TrapRange and TrapLarge: at the ends of what may be, and one beyond.
func TestTrapRange(t *testing.T) {
	for _, i := range []int{-1, 3, 4, math.MinInt, math.MaxInt, 1 << 32, -1 << 32} {
		wantTrap(t, api.TrapRange, 1, num(3), in(api.OpMake, link), num(i), in(api.OpElem))
	}
	for _, n := range []int{0, 2} {
		wantOut(t, "", 1, num(3), in(api.OpMake, link), num(n), in(api.OpElem), pop)
	}
	wantTrap(t, api.TrapRange, 1, num(0), in(api.OpMake, link), num(0), in(api.OpElem))
	wantTrap(t, api.TrapRange, 1, in(api.OpStr, 0, cell), num(0), in(api.OpElem))
	wantTrap(t, api.TrapRange, 1, in(api.OpStr, 1, cell), num(4), in(api.OpElem))
	for _, n := range []int{-1, -2, math.MinInt, -1 << 32} {
		wantTrap(t, api.TrapRange, 0, num(n), in(api.OpMake, link))
	}
	for _, n := range []int{api.MaxLen + 1, math.MaxInt, 1 << 32, 1<<32 + 1} {
		wantTrap(t, api.TrapLarge, 0, num(n), in(api.OpMake, cell))
	}
}

// Which of two traps is told: TrapNil ahead of TrapRange.
func TestNilAheadOfRange(t *testing.T) {
	for _, i := range []int{-1, 0, 1, math.MinInt, math.MaxInt} {
		wantTrap(t, api.TrapNil, 0, in(api.OpNil, arr(link)), num(i), in(api.OpElem))
	}
}

// A trap is told ahead of what is wanting, and nothing of the instruction is done: nothing is collected, made, called, moved or written.
func TestTrapAheadOfWants(t *testing.T) {
	c := api.Config{Heap: 2, Stack: 20, Fuel: 100, Collects: always(9), Moves: always(9)}
	for _, k := range []struct {
		n, trap int
	}{{-1, api.TrapRange}, {api.MaxLen + 1, api.TrapLarge}} {
		m := ran(t, world(made(cell), pop, num(k.n), in(api.OpMake, mixed), halt), c, trapped(k.trap, "", 4, 1))
		if m.Objects() != 1 {
			t.Errorf("%d objects", m.Objects())
		}
	}
	p := world(num(1), num(5), in(api.OpDyn), out, halt)
	p.Funcs[square].Locals = make([]int, 50)
	m := ran(t, p, c, trapped(api.TrapRange, "", 3, 0))
	if m.Moved() != 0 {
		t.Errorf("moved %d", m.Moved())
	}
	p.Funcs[0].Code[1] = num(0)
	ran(t, p, c, report(api.NoStack, "", 2, 0))
}

// A trap within a called function, behind what was written.
func TestTrapInFrames(t *testing.T) {
	p := world(num(1), out, in(api.OpNil, ptr(link)), call(first), out, halt)
	wantRun(t, p, trapped(api.TrapNil, "1", 6, 0))
	p = world(num(1), out, num(4), call(8), out, halt)
	p.Funcs = append(p.Funcs, api.Func{Params: 1, Locals: []int{word}, Results: []int{word}, Code: code(num(2), out, get(0), num(0), in(api.OpArith, api.Mod), ret)})
	wantRun(t, p, trapped(api.TrapZero, "12", 9, 0))
}
