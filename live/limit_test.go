package live_test

import (
	"slices"
	"testing"

	"halyard/api"
)

const lastBlock, lastVar = api.MaxPoints - 1, api.MaxLocals - 1

// chain: each block goes on at the next one.
func chain(count int) []api.Block {
	blocks := make([]api.Block, count)
	for b := range count - 1 {
		blocks[b].Next = of(b + 1)
	}
	return blocks
}

// MaxPoints blocks and no more.
func TestMostBlocks(t *testing.T) {
	for _, count := range []int{api.MaxPoints - 1, api.MaxPoints} {
		all := rising(0, count-1)
		blocks := chain(count)
		wantOrder(t, blocks, all...)
		wantDoms(t, blocks, rising(-1, count-2)...)
		wantNeeded(t, with(blocks, 0, of(count-1), nil), 0, all, all[:count-1])
		wantNeeded(t, with(blocks, 0, of(count-1), of(count-2)), 0, of(count-1), of(count-2))
		blocks[count-1].Next = of(0, count-1)
		wantOrder(t, blocks, all...)
		wantDoms(t, blocks, rising(-1, count-2)...)
		wantNeeded(t, with(blocks, 0, of(0), of(1)), 0, append(of(0), all[2:]...), all[1:])
		blocks[0].Next = of(count - 1)
		wantOrder(t, blocks, 0, count-1)
		blocks[count-1].Next = of(count)
		wantError(t, blocks, api.ErrForm)
	}
	for _, more := range []int{1, 2, 1000} {
		wantError(t, chain(api.MaxPoints+more), api.ErrLarge)
		wantError(t, make([]api.Block, api.MaxPoints+more), api.ErrLarge)
		wantSolveError(t, make([]api.Block, api.MaxPoints+more), 0, api.ErrLarge)
	}
}

// Each block of MaxPoints is told apart from the others: it alone goes on at the last one, reads, writes, and is gone through.
func TestEachBlock(t *testing.T) {
	for b := range lastBlock {
		blocks := make([]api.Block, api.MaxPoints)
		blocks[0].Next = of(b)
		blocks[b].Next = append(slices.Clone(blocks[b].Next), lastBlock)
		ahead, order := of(b, lastBlock), of(0, b, lastBlock)
		doms := slices.Repeat(of(-1), api.MaxPoints)
		doms[lastBlock] = b
		behind := of(b)
		if b > 0 {
			doms[b] = 0
			ahead, behind = append(ahead, 0), append(behind, 0)
		} else {
			order = order[1:]
			behind = of(0)
		}
		wantOrder(t, blocks, order...)
		wantDoms(t, blocks, doms...)
		wantNeeded(t, with(blocks, 1, of(lastBlock), nil), 1, ahead, behind)
		wantNeeded(t, with(blocks, 1, of(lastBlock), of(b)), 1, of(lastBlock), of(b))
		if t.Failed() {
			return
		}
	}
}

// MaxLocals variables, all of which are needed, or every other one.
func TestMostVars(t *testing.T) {
	all := rising(0, lastVar)
	var even, odd []int
	for v := 0; v < api.MaxLocals; v += 2 {
		even, odd = append(even, v), append(odd, v+1)
	}
	blocks := []api.Block{{Def: even, Next: of(1)}, {Def: odd, Next: of(2, 1)}, {Use: all}}
	wantSolve(t, blocks, api.MaxLocals, need{nil, even}, need{even, all}, need{all, nil})
	back := slices.Clone(all)
	slices.Reverse(back)
	blocks[2].Use = back
	wantSolve(t, blocks, api.MaxLocals, need{nil, even}, need{even, all}, need{all, nil})
	blocks[1].Use = odd
	wantSolve(t, blocks, api.MaxLocals, need{odd, all}, need{all, all}, need{all, nil})
	wantSolveError(t, blocks, lastVar, api.ErrForm)
	wantSolveError(t, blocks, api.MaxLocals+1, api.ErrLarge)
}

// All limits at once: a way of all blocks, whose last one reads all variables; and all blocks that go on at all.
func TestAllAtTheLimits(t *testing.T) {
	all, every := rising(0, lastVar), rising(0, lastBlock)
	blocks := chain(api.MaxPoints)
	blocks[lastBlock].Use = all
	want := slices.Repeat([]need{{all, all}}, api.MaxPoints)
	want[lastBlock].behind = nil
	wantSolve(t, blocks, api.MaxLocals, want...)
	for b := range blocks {
		blocks[b].Next = every
	}
	want[lastBlock].behind = all
	wantSolve(t, blocks, api.MaxLocals, want...)
	wantOrder(t, blocks, every...)
	doms := make([]int, api.MaxPoints)
	doms[0] = -1
	wantDoms(t, blocks, doms...)
	// block b writes the variables from 8 b on: these are not needed ahead of it, but for the last, which reads them
	for b := range lastBlock {
		blocks[b].Def = all[8*b : 8*b+8]
		want[b].ahead = slices.Concat(all[:8*b], all[8*b+8:])
	}
	wantSolve(t, blocks, api.MaxLocals, want...)
}

// Lists far longer than there are numbers.
func TestLongLists(t *testing.T) {
	const long = 1 << 20
	blocks := []api.Block{{Next: slices.Repeat(of(1), long)}, {Use: slices.Repeat(of(1, 0), long), Def: slices.Repeat(of(2), long)}}
	wantSolve(t, blocks, 3, need{of(0, 1), of(0, 1)}, need{of(0, 1), nil})
	wantOrder(t, blocks, 0, 1)
	wantDoms(t, blocks, -1, 0)
	blocks[0].Next[long-1] = 2
	wantError(t, blocks, api.ErrForm)
	blocks[0].Next[long-1] = 0
	wantSolve(t, blocks, 3, need{of(0, 1), of(0, 1)}, need{of(0, 1), nil})
	blocks[1].Use[2*long-1] = -1
	wantError(t, blocks, api.ErrForm)
}
