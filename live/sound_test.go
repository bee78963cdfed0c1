package live_test

import (
	"math"
	"slices"
	"testing"

	"halyard/api"
)

// far: numbers that are right for nothing.
func far() []int {
	return []int{-2, -100, api.MaxLocals + 1, 10000, 1 << 32, 1<<32 + 1, -1 << 32, math.MinInt, math.MinInt + 1, math.MaxInt, math.MaxInt - 1}
}

// fine: three blocks with three variables, which are sound.
func fine() []api.Block {
	return []api.Block{
		{Use: of(0, 1, 2), Def: of(1, 2, 0), Next: of(1, 0, 2)},
		{Use: of(2, 0, 1), Def: of(0, 2, 1), Next: of(2, 1, 0)},
		{Use: of(1, 2, 0), Def: of(2, 1, 0), Next: of(0, 2, 1)},
	}
}

func TestFine(t *testing.T) {
	all := need{of(0, 1, 2), of(0, 1, 2)}
	wantSolve(t, fine(), 3, all, all, all)
	wantOrder(t, fine(), 0, 1, 2)
	wantDoms(t, fine(), -1, 0, 0)
}

// put: what is done with sound blocks of which one number is another one: each field, in the first, middle and last place of the first, middle and last block.
func put(numbers []int, field func(b *api.Block) *[]int, do func(blocks []api.Block)) {
	for _, n := range numbers {
		for b := range 3 {
			for at := range 3 {
				blocks := fine()
				(*field(&blocks[b]))[at] = n
				do(blocks)
			}
		}
	}
}

func useOf(b *api.Block) *[]int  { return &b.Use }
func defOf(b *api.Block) *[]int  { return &b.Def }
func nextOf(b *api.Block) *[]int { return &b.Next }

// A variable is from 0 to vars - 1, in Use and in Def.
func TestVariables(t *testing.T) {
	for _, field := range []func(b *api.Block) *[]int{useOf, defOf} {
		put(append(far(), -1, api.MaxLocals), field, func(blocks []api.Block) {
			wantError(t, blocks, api.ErrForm)
			wantSolveError(t, blocks, 3, api.ErrForm)
		})
		put(of(3, 4, 64, api.MaxLocals-1), field, func(blocks []api.Block) {
			wantSolveError(t, blocks, 3, api.ErrForm)
			// Order and Doms have MaxLocals variables
			wantOrder(t, blocks, 0, 1, 2)
			wantDoms(t, blocks, -1, 0, 0)
		})
	}
	for _, vars := range []int{1, 2, 3, 63, 64, 65, api.MaxLocals - 1, api.MaxLocals} {
		one := []api.Block{{Use: of(vars - 1), Def: of(vars - 1), Next: of(0)}}
		wantSolve(t, one, vars, need{of(vars - 1), of(vars - 1)})
		wantSolveError(t, one, vars-1, api.ErrForm)
		wantSolve(t, []api.Block{{Def: of(vars - 1)}}, vars, need{})
		wantSolveError(t, []api.Block{{Def: of(vars - 1)}}, vars-1, api.ErrForm)
	}
}

// A number of Next is a block's.
func TestNext(t *testing.T) {
	put(append(far(), -1, 3, 4, api.MaxPoints, api.MaxPoints+1), nextOf, func(blocks []api.Block) {
		wantError(t, blocks, api.ErrForm)
		wantSolveError(t, blocks, 3, api.ErrForm)
	})
	put(of(0, 1, 2), nextOf, func(blocks []api.Block) {
		all := need{of(0, 1, 2), of(0, 1, 2)}
		wantSolve(t, blocks, 3, all, all, all)
	})
	for count := 1; count < 5; count++ {
		nexts := make([][]int, count)
		for b := range nexts {
			nexts[b] = of(0, count-1)
			wantSolve(t, goes(nexts...), 0, make([]need, count)...)
			nexts[b] = of(0, count)
			wantError(t, goes(nexts...), api.ErrForm)
			nexts[b] = of(-1, 0)
			wantError(t, goes(nexts...), api.ErrForm)
			nexts[b] = nil
		}
	}
}

// vars is from 0 to MaxLocals, whatever the blocks.
func TestVars(t *testing.T) {
	for _, vars := range append(far(), -1, api.MaxLocals+1, api.MaxLocals+2) {
		wantSolveError(t, fine(), vars, api.ErrLarge)
		wantSolveError(t, goes(nil), vars, api.ErrLarge)
		wantSolveError(t, nil, vars, api.ErrLarge)
	}
	for _, vars := range []int{0, 1, 2} {
		wantSolveError(t, fine(), vars, api.ErrForm)
	}
	all := need{of(0, 1, 2), of(0, 1, 2)}
	for _, vars := range []int{3, 4, 64, api.MaxLocals - 1, api.MaxLocals} {
		wantSolve(t, fine(), vars, all, all, all)
	}
	wantSolve(t, goes(of(1), nil), 0, need{}, need{})
	wantSolveError(t, with(goes(of(1), nil), 0, of(1), nil), 0, api.ErrForm)
	wantSolveError(t, with(goes(of(1), nil), 0, nil, of(1)), 0, api.ErrForm)
}

// unsound: blocks that are ErrForm for all calls.
func unsound() [][]api.Block {
	var list [][]api.Block
	add := func(blocks []api.Block) { list = append(list, blocks) }
	put(append(far(), -1, api.MaxLocals), useOf, add)
	put(append(far(), -1, api.MaxLocals), defOf, add)
	put(append(far(), -1, 3), nextOf, add)
	return list
}

// ErrLarge stands ahead of ErrForm, wherever the two faults are.
func TestLargeFirst(t *testing.T) {
	for _, blocks := range unsound() {
		for _, vars := range []int{-1, math.MinInt, api.MaxLocals + 1, math.MaxInt} {
			wantSolveError(t, blocks, vars, api.ErrLarge)
		}
		many := slices.Concat(blocks, make([]api.Block, api.MaxPoints+1-len(blocks)))
		for range 2 {
			wantError(t, many, api.ErrLarge)
			for _, vars := range []int{-1, 0, 3, api.MaxLocals + 1} {
				wantSolveError(t, many, vars, api.ErrLarge)
			}
			slices.Reverse(many)
		}
	}
}

// Two faults of one kind are one error.
func TestTwoFaults(t *testing.T) {
	wantSolveError(t, make([]api.Block, api.MaxPoints+1), -1, api.ErrLarge)
	wantSolveError(t, make([]api.Block, api.MaxPoints+1), api.MaxLocals+1, api.ErrLarge)
	wantError(t, []api.Block{{Use: of(-1), Def: of(-1), Next: of(-1)}}, api.ErrForm)
	wantError(t, []api.Block{{}, {Use: of(api.MaxLocals)}, {Next: of(3)}}, api.ErrForm)
}

// What nothing comes to is looked at too.
func TestUnsoundNotComeTo(t *testing.T) {
	wantError(t, []api.Block{{}, {Next: of(2)}}, api.ErrForm)
	wantError(t, []api.Block{{}, {Use: of(-1)}}, api.ErrForm)
	wantError(t, []api.Block{{}, {Def: of(api.MaxLocals)}}, api.ErrForm)
}
