package vm

import (
	"testing"

	"halyard/api"
)

// A move is a real one, though nothing else tells it: the stack, and with it an area and what names it, has an address that it has never had.
func TestMovesAreReal(t *testing.T) {
	p := api.Prog{Types: []api.Layout{{Fields: []int{api.Word}}}, Funcs: []api.Func{
		{Locals: []int{api.Local + api.Ptr}, Areas: []int{0}, Code: []api.Instr{{Op: api.OpArea}, {Op: api.OpSet}, {Op: api.OpArea}, {Op: api.OpCall, A: 1}, {Op: api.OpJump, A: 3}}},
		{Code: []api.Instr{{Op: api.OpRet}}},
	}}
	moves := []bool{true, false, true, true}
	m := New(p, api.Config{Stack: 3, Fuel: 100, Moves: moves})
	m.Step()
	m.Step()
	m.Step()
	seen := map[int]int{}
	for k, move := range moves {
		old, _ := m.stack.Addr(0, 1)
		seen[old]++
		m.Step()
		area, _ := m.stack.Addr(0, 1)
		if (area != old) != move || move && seen[area] > 0 {
			t.Errorf("call %d: from %d to %d", k, old, area)
		}
		for _, i := range []int{0, 2} {
			at, _ := m.stack.Addr(0, i)
			if p, _ := m.stack.Get(at); p != area {
				t.Errorf("call %d: word %d is %d; want %d", k, i, p, area)
			}
		}
		m.Step()
		m.Step()
	}
}
