package live_test

import (
	"slices"
	"testing"

	"halyard/api"
)

// P17.1: one block, alone and going on at itself: what it reads, what it writes, both and neither.
func TestOneBlock(t *testing.T) {
	end, again := goes(nil), goes(of(0))
	wantNeeded(t, end, 0, nil, nil)
	wantNeeded(t, with(end, 0, of(0), nil), 0, of(0), nil)
	wantNeeded(t, with(end, 0, nil, of(0)), 0, nil, nil)
	wantNeeded(t, with(end, 0, of(0), of(0)), 0, of(0), nil)
	wantNeeded(t, again, 0, nil, nil)
	wantNeeded(t, with(again, 0, of(0), nil), 0, of(0), of(0))
	wantNeeded(t, with(again, 0, nil, of(0)), 0, nil, nil)
	wantNeeded(t, with(again, 0, of(0), of(0)), 0, of(0), of(0))
}

// P17.1: a variable is needed back to where it is written, there behind the block, and not ahead of it.
func TestStraight(t *testing.T) {
	g := goes(of(1), of(2), of(3), nil)
	wantNeeded(t, g, 5, nil, nil)
	wantNeeded(t, with(g, 5, of(3), nil), 5, of(0, 1, 2, 3), of(0, 1, 2))
	wantNeeded(t, with(g, 5, of(2), nil), 5, of(0, 1, 2), of(0, 1))
	wantNeeded(t, with(g, 5, of(0), nil), 5, of(0), nil)
	wantNeeded(t, with(g, 5, of(3), of(0)), 5, of(1, 2, 3), of(0, 1, 2))
	wantNeeded(t, with(g, 5, of(3), of(1)), 5, of(2, 3), of(1, 2))
	wantNeeded(t, with(g, 5, of(3), of(2)), 5, of(3), of(2))
	wantNeeded(t, with(g, 5, of(3), of(0, 1, 2)), 5, of(3), of(2))
	wantNeeded(t, with(g, 5, of(1, 3), of(2)), 5, of(0, 1, 3), of(0, 2))
	wantNeeded(t, with(g, 5, of(0, 1, 2, 3), of(0, 1, 2, 3)), 5, of(0, 1, 2, 3), of(0, 1, 2))
	wantNeeded(t, with(g, 5, nil, of(0, 1, 2, 3)), 5, nil, nil)
}

// P17.1: a block that reads a variable and writes it needs it, and those ahead of it do; what is read behind it goes by what it writes.
func TestReadAndWritten(t *testing.T) {
	g := goes(of(1), of(2), of(3), nil)
	wantNeeded(t, with(g, 1, of(3), of(3)), 1, of(0, 1, 2, 3), of(0, 1, 2))
	wantNeeded(t, with(g, 1, of(2), of(2)), 1, of(0, 1, 2), of(0, 1))
	wantNeeded(t, with(g, 1, of(2, 3), of(2)), 1, of(0, 1, 2, 3), of(0, 1, 2))
	wantNeeded(t, with(g, 1, of(2, 3), of(2, 0)), 1, of(1, 2, 3), of(0, 1, 2))
}

// P17.1: behind a block is needed what is needed ahead of one of its Next, be it the first or the last.
func TestBranches(t *testing.T) {
	for _, first := range [][]int{of(1, 2), of(2, 1)} {
		g := goes(first, of(3), of(3), nil)
		wantNeeded(t, with(g, 2, of(1), nil), 2, of(0, 1), of(0))
		wantNeeded(t, with(g, 2, of(2), nil), 2, of(0, 2), of(0))
		wantNeeded(t, with(g, 2, of(2), of(1)), 2, of(0, 2), of(0))
		wantNeeded(t, with(g, 2, of(2), of(0)), 2, of(2), of(0))
		wantNeeded(t, with(g, 2, of(3), nil), 2, of(0, 1, 2, 3), of(0, 1, 2))
		wantNeeded(t, with(g, 2, of(3), of(1)), 2, of(0, 2, 3), of(0, 1, 2))
		wantNeeded(t, with(g, 2, of(3), of(2)), 2, of(0, 1, 3), of(0, 1, 2))
		wantNeeded(t, with(g, 2, of(3), of(1, 2)), 2, of(3), of(1, 2))
		wantNeeded(t, with(g, 2, of(3, 1), of(1, 2)), 2, of(0, 1, 3), of(0, 1, 2))
	}
	many := goes(of(1, 2, 3, 4, 5), nil, nil, nil, nil, nil)
	for b := 1; b <= 5; b++ {
		wantNeeded(t, with(many, 0, of(b), nil), 0, of(0, b), of(0))
	}
}

// P17.1: in a circle a variable is needed all around, or from where it is written to where it is read.
func TestCircles(t *testing.T) {
	g := goes(of(1), of(2), of(3, 4), of(1), nil)
	wantNeeded(t, with(g, 0, of(1), nil), 0, of(0, 1, 2, 3), of(0, 1, 2, 3))
	wantNeeded(t, with(g, 0, of(3), nil), 0, of(0, 1, 2, 3), of(0, 1, 2, 3))
	wantNeeded(t, with(g, 0, of(4), nil), 0, of(0, 1, 2, 3, 4), of(0, 1, 2, 3))
	wantNeeded(t, with(g, 0, of(4), of(1)), 0, of(2, 4), of(1, 2))
	wantNeeded(t, with(g, 0, of(4), of(3)), 0, of(0, 1, 2, 4), of(0, 1, 2, 3))
	wantNeeded(t, with(g, 0, of(0), of(3)), 0, of(0), nil)
}

// P17.1: a variable that is read and written in a circle is needed from the one around to the other, and nowhere else.
func TestAroundOnly(t *testing.T) {
	g := goes(of(1), of(2), of(3, 4), of(1), nil)
	wantNeeded(t, with(g, 3, of(1), of(0, 1)), 3, of(1, 2, 3), of(0, 1, 2, 3))
	wantNeeded(t, with(g, 3, of(1), of(0, 2)), 3, of(1, 3), of(0, 2, 3))
	wantNeeded(t, with(g, 3, of(1), of(0, 3)), 3, of(1), of(0, 3))
	wantNeeded(t, with(g, 3, of(2), of(1)), 3, of(2), of(1))
	wantNeeded(t, with(g, 3, of(3), of(1)), 3, of(2, 3), of(1, 2))
	wantNeeded(t, with(g, 3, of(3), of(2)), 3, of(3), of(2))
	wantNeeded(t, with(g, 3, of(2), of(0, 3)), 3, of(1, 2), of(0, 1, 3))
	wantNeeded(t, with(g, 3, nil, of(0, 1, 2, 3, 4)), 3, nil, nil)
	// a circle that does not end, and one of two
	wantNeeded(t, with(goes(of(1), of(2), of(1)), 3, of(1), of(2)), 3, of(0, 1), of(0, 2))
	wantNeeded(t, with(goes(of(1), of(0)), 3, of(0), of(1)), 3, of(0), of(1))
	wantNeeded(t, with(goes(of(1), of(0)), 3, of(1), of(1)), 3, of(0, 1), of(0, 1))
	// nothing in the circle reads it
	wantNeeded(t, with(goes(of(1), of(2), of(1)), 3, of(0), of(1)), 3, of(0), nil)
}

// P17.1: a circle within a circle within a circle: 2 within 1 to 3 within 0 to 4.
func TestNestedCircles(t *testing.T) {
	g := goes(of(1), of(2), of(2, 3), of(1, 4), of(0, 5), nil)
	wantNeeded(t, with(g, 0, of(2), nil), 0, of(0, 1, 2, 3, 4), of(0, 1, 2, 3, 4))
	wantNeeded(t, with(g, 0, of(2), of(2)), 0, of(0, 1, 2, 3, 4), of(0, 1, 2, 3, 4))
	wantNeeded(t, with(g, 0, of(2), of(1)), 0, of(2), of(1, 2))
	wantNeeded(t, with(g, 0, of(2), of(3)), 0, of(0, 1, 2, 4), of(0, 1, 2, 3, 4))
	wantNeeded(t, with(g, 0, of(1), of(2)), 0, of(0, 1, 3, 4), of(0, 2, 3, 4))
	wantNeeded(t, with(g, 0, of(1), of(0, 3)), 0, of(1), of(0, 3))
	wantNeeded(t, with(g, 0, of(4), of(0)), 0, of(1, 2, 3, 4), of(0, 1, 2, 3))
	wantNeeded(t, with(g, 0, of(0), of(4)), 0, of(0), of(4))
	wantNeeded(t, with(g, 0, of(5), of(0)), 0, of(1, 2, 3, 4, 5), of(0, 1, 2, 3, 4))
	wantNeeded(t, with(g, 0, of(5), of(4)), 0, of(5), of(4))
}

// P17.1: circles with two ways in, and two that share a block.
func TestTwoWaysIn(t *testing.T) {
	g := goes(of(1, 2), of(2), of(1, 3), nil)
	wantNeeded(t, with(g, 0, of(1), of(0)), 0, of(1, 2), of(0, 1, 2))
	wantNeeded(t, with(g, 0, of(2), of(1)), 0, of(0, 2), of(0, 1))
	wantNeeded(t, with(g, 0, of(1), of(2)), 0, of(0, 1), of(0, 2))
	wantNeeded(t, with(g, 0, of(3), of(1)), 0, of(0, 2, 3), of(0, 1, 2))
	eight := goes(of(1, 2), of(0), of(0))
	wantNeeded(t, with(eight, 0, of(1), nil), 0, of(0, 1, 2), of(0, 1, 2))
	wantNeeded(t, with(eight, 0, of(1), of(0)), 0, of(1), of(0))
	wantNeeded(t, with(eight, 0, of(1), of(2)), 0, of(0, 1), of(0, 1, 2))
}

// P17.1: of each block, also of those that nothing comes to, and of those that come to block 0 again.
func TestNotComeTo(t *testing.T) {
	g := goes(of(1), nil, of(1, 3), of(2), nil, of(5), of(0))
	wantNeeded(t, with(g, 0, of(1), nil), 0, of(0, 1, 2, 3, 6), of(0, 2, 3, 6))
	wantNeeded(t, with(g, 0, of(1), of(0)), 0, of(1, 2, 3), of(0, 2, 3))
	wantNeeded(t, with(g, 0, of(3), nil), 0, of(2, 3), of(2, 3))
	wantNeeded(t, with(g, 0, of(3), of(2)), 0, of(3), of(2))
	wantNeeded(t, with(g, 0, of(4), nil), 0, of(4), nil)
	wantNeeded(t, with(g, 0, of(5), nil), 0, of(5), of(5))
	wantNeeded(t, with(g, 0, of(6), of(1)), 0, of(6), nil)
	wantNeeded(t, with(g, 0, of(0), nil), 0, of(0, 6), of(6))
}

// P17.1: the lists rise and have each variable once, whatever the order of Use, Def and Next.
func TestRising(t *testing.T) {
	blocks := []api.Block{
		{Use: of(9, 3, 9, 6), Def: of(0, 0, 7), Next: of(2, 1, 2)},
		{Use: of(8, 2, 5, 2, 8), Next: of(3)},
		{Use: of(7, 1, 5, 0), Def: of(4, 8), Next: of(3, 3)},
		{Use: of(8, 4, 6, 4)},
	}
	wantSolve(t, blocks, 10,
		need{of(1, 2, 3, 4, 5, 6, 8, 9), of(0, 1, 2, 4, 5, 6, 7, 8)},
		need{of(2, 4, 5, 6, 8), of(4, 6, 8)},
		need{of(0, 1, 5, 6, 7), of(4, 6, 8)},
		need{of(4, 6, 8), nil})
}

// Numbers that stand more than once are as if they stood once.
func TestMoreThanOnce(t *testing.T) {
	g := []api.Block{{Def: of(1), Next: of(1)}, {Use: of(0, 1), Def: of(0), Next: of(1, 2)}, {Use: of(2), Next: of(2)}}
	want := []need{{of(0, 2), of(0, 1, 2)}, {of(0, 1, 2), of(0, 1, 2)}, {of(2), of(2)}}
	wantSolve(t, g, 3, want...)
	for b := range g {
		g[b].Use, g[b].Def, g[b].Next = often(g[b].Use), often(g[b].Def), often(g[b].Next)
	}
	wantSolve(t, g, 3, want...)
	wantOrder(t, g, 0, 1, 2)
	wantDoms(t, g, -1, 0, 1)
}

// often: the list once forwards, once backwards, and a thousand times its first number.
func often(list []int) []int {
	back := slices.Clone(list)
	slices.Reverse(back)
	long := slices.Repeat(list[:min(len(list), 1)], 1000)
	return slices.Concat(list, back, long)
}

// P17.1: each variable goes by itself: what one block writes is nothing to the others that it does not.
func TestVariablesAreApart(t *testing.T) {
	g := goes(of(1), of(2), nil)
	for _, pair := range [][2]int{{0, 1}, {1, 0}, {0, 64}, {63, 64}, {64, 65}, {7, 4095}, {4095, 4031}} {
		v, w := pair[0], pair[1]
		blocks := with(with(g, v, of(2), of(1)), w, of(1), of(0, 2))
		both := max(v, w) + 1
		wantSolve(t, blocks, both, need{nil, of(w)}, need{of(w), of(v)}, need{of(v), nil})
		blocks = with(with(g, v, of(2), nil), w, nil, of(0, 1, 2))
		wantSolve(t, blocks, both, need{of(v), of(v)}, need{of(v), of(v)}, need{of(v), nil})
	}
}

// Of more variables than stand in the blocks nothing is told.
func TestMoreVars(t *testing.T) {
	blocks := with(goes(of(1), nil), 4, of(1), nil)
	for _, vars := range []int{5, 6, 64, 1000, api.MaxLocals} {
		wantSolve(t, blocks, vars, need{of(4), of(4)}, need{of(4), nil})
	}
	for _, vars := range []int{0, 1, api.MaxLocals} {
		wantSolve(t, goes(of(1), of(0, 1), nil), vars, need{}, need{}, need{})
	}
}
