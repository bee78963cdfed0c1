package live_test

import (
	"slices"
	"testing"

	"halyard/api"
	"halyard/live"
)

// of: a list of numbers.
func of(list ...int) []int { return list }

// rising: the numbers from one on to the last.
func rising(from, last int) []int {
	var list []int
	for n := from; n <= last; n++ {
		list = append(list, n)
	}
	return list
}

// goes: blocks that go on at these, and have no variables.
func goes(nexts ...[]int) []api.Block {
	var list []api.Block
	for _, next := range nexts {
		list = append(list, api.Block{Next: next})
	}
	return list
}

// with: the blocks, some of which read a variable, and some of which write it.
func with(blocks []api.Block, v int, use, def []int) []api.Block {
	list := slices.Clone(blocks)
	for _, b := range use {
		list[b].Use = append(slices.Clone(list[b].Use), v)
	}
	for _, b := range def {
		list[b].Def = append(slices.Clone(list[b].Def), v)
	}
	return list
}

func same(a, b [][]int) bool { return slices.EqualFunc(a, b, slices.Equal[[]int]) }

// brief: what is told of a list in a fault, which may be very long.
func brief[T any](list []T) []T { return list[:min(len(list), 12)] }

// need is what is needed ahead of a block, and behind it.
type need struct{ ahead, behind []int }

func wantSolve(t *testing.T, blocks []api.Block, vars int, want ...need) {
	t.Helper()
	in, out, e := live.Solve(blocks, vars)
	if e != api.OK || len(in) != len(want) || len(out) != len(want) {
		t.Errorf("Solve of %v, %d: %d and %d lists, %d, want %d of both", brief(blocks), vars, len(in), len(out), e, len(want))
		return
	}
	for b, w := range want {
		if !slices.Equal(in[b], w.ahead) || !slices.Equal(out[b], w.behind) {
			t.Errorf("Solve of %v, %d: ahead of block %d %v, behind it %v, want %v and %v", brief(blocks), vars, b, brief(in[b]), brief(out[b]), brief(w.ahead), brief(w.behind))
			return
		}
	}
}

// wantNeeded: ahead of these blocks, and behind those, the one variable is needed that stands in them.
func wantNeeded(t *testing.T, blocks []api.Block, v int, ahead, behind []int) {
	t.Helper()
	want := make([]need, len(blocks))
	for _, b := range ahead {
		want[b].ahead = of(v)
	}
	for _, b := range behind {
		want[b].behind = of(v)
	}
	wantSolve(t, blocks, v+1, want...)
}

func wantOrder(t *testing.T, blocks []api.Block, want ...int) {
	t.Helper()
	if got, e := live.Order(blocks); e != api.OK || !slices.Equal(got, want) {
		t.Errorf("Order of %v: %v, %d, want %v", brief(blocks), brief(got), e, brief(want))
	}
}

func wantDoms(t *testing.T, blocks []api.Block, want ...int) {
	t.Helper()
	if got, e := live.Doms(blocks); e != api.OK || !slices.Equal(got, want) {
		t.Errorf("Doms of %v: %v, %d, want %v", brief(blocks), brief(got), e, brief(want))
	}
}

func wantSolveError(t *testing.T, blocks []api.Block, vars int, want api.Errno) {
	t.Helper()
	if in, out, e := live.Solve(blocks, vars); e != want || len(in) > 0 || len(out) > 0 {
		t.Errorf("Solve of %v, %d: %v, %v, %d, want the error %d", brief(blocks), vars, brief(in), brief(out), e, want)
	}
}

// wantError: of Order and Doms, and of Solve with MaxLocals variables.
func wantError(t *testing.T, blocks []api.Block, want api.Errno) {
	t.Helper()
	wantSolveError(t, blocks, api.MaxLocals, want)
	if got, e := live.Order(blocks); e != want || len(got) > 0 {
		t.Errorf("Order of %v: %v, %d, want the error %d", brief(blocks), brief(got), e, want)
	}
	if got, e := live.Doms(blocks); e != want || len(got) > 0 {
		t.Errorf("Doms of %v: %v, %d, want the error %d", brief(blocks), brief(got), e, want)
	}
}

// The chapter's example.
func TestExample(t *testing.T) {
	blocks := []api.Block{{Def: of(0), Next: of(1)}, {Use: of(0), Next: of(1, 2)}, {}}
	wantSolve(t, blocks, 1, need{nil, of(0)}, need{of(0), of(0)}, need{})
	wantOrder(t, blocks, 0, 1, 2)
	wantDoms(t, blocks, -1, 0, 1)
}

// What some function does: s := 0; i := 0; for i < n { if even(i) { s = s + i } i = i + 1 }; return s.
func TestFunction(t *testing.T) {
	const n, s, i = 0, 1, 2
	blocks := []api.Block{
		{Def: of(s, i), Next: of(1)},
		{Use: of(i, n), Next: of(2, 5)},
		{Use: of(i), Next: of(3, 4)},
		{Use: of(s, i), Def: of(s), Next: of(4)},
		{Use: of(i), Def: of(i), Next: of(1)},
		{Use: of(s)},
	}
	all := of(n, s, i)
	wantSolve(t, blocks, 3, need{of(n), all}, need{all, all}, need{all, all}, need{all, all}, need{all, all}, need{of(s), nil})
	wantOrder(t, blocks, 0, 1, 5, 2, 3, 4)
	wantDoms(t, blocks, -1, 0, 1, 2, 2, 1)
}

// R1: no blocks, as nil and as an empty list.
func TestNoBlocks(t *testing.T) {
	for _, blocks := range [][]api.Block{nil, {}, goes(of(7))[:0]} {
		for _, vars := range []int{0, 1, api.MaxLocals} {
			wantSolve(t, blocks, vars)
		}
		wantOrder(t, blocks)
		wantDoms(t, blocks)
		for _, vars := range []int{-1, api.MaxLocals + 1} {
			wantSolveError(t, blocks, vars, api.ErrLarge)
		}
	}
}

// Variables are nothing to Order and Doms.
func TestVariablesDoNotMatter(t *testing.T) {
	blocks := goes(of(2, 1), of(3), of(3), of(1))
	for v := 0; v < api.MaxLocals; v += 455 {
		blocks = with(blocks, v, of(v%4, 1), of(0, v%3))
		wantOrder(t, blocks, 0, 2, 3, 1)
		wantDoms(t, blocks, -1, 0, 0, 0)
	}
}
