package live_test

import (
	"slices"
	"testing"
)

// P17.3: block 0 has none, whatever goes on there.
func TestDomsOfFirst(t *testing.T) {
	wantDoms(t, goes(nil), -1)
	wantDoms(t, goes(of(0)), -1)
	wantDoms(t, goes(of(0, 0)), -1)
	wantDoms(t, goes(of(1), of(0)), -1, 0)
	wantDoms(t, goes(of(1), of(2), of(0, 1)), -1, 0, 1)
	wantDoms(t, goes(of(1), of(1, 0)), -1, 0)
}

// P17.3: of one way each block has the one ahead of it, whatever the numbers.
func TestDomsOneWay(t *testing.T) {
	wantDoms(t, goes(of(1), of(2), of(3), nil), -1, 0, 1, 2)
	wantDoms(t, goes(of(3), nil, of(1), of(2)), -1, 2, 3, 0)
	wantDoms(t, goes(of(2), of(3), of(1), nil), -1, 2, 0, 1)
	wantDoms(t, goes(of(1, 2), of(3, 4), nil, nil, nil), -1, 0, 0, 1, 1)
	wantDoms(t, goes(of(3), nil, nil, of(3, 1, 2, 1)), -1, 3, 3, 0)
}

// P17.3: where ways meet it is the last that all of them go through, be there a short way or a long one.
func TestDomsSeveralWays(t *testing.T) {
	wantDoms(t, goes(of(1, 2), of(3), of(3), nil), -1, 0, 0, 0)
	wantDoms(t, goes(of(2, 1), of(3), of(3), nil), -1, 0, 0, 0)
	wantDoms(t, goes(of(1, 3), of(2), of(3), nil), -1, 0, 1, 0)
	wantDoms(t, goes(of(1), of(2, 3), of(4), of(4), of(5), nil), -1, 0, 1, 1, 1, 4)
	wantDoms(t, goes(of(1), of(2, 4), of(3), of(4), of(5), nil), -1, 0, 1, 2, 1, 4)
	// two pairs of ways, one behind the other, and one within the other
	wantDoms(t, goes(of(1, 2), of(3), of(3), of(4, 5), of(6), of(6), nil), -1, 0, 0, 0, 3, 3, 3)
	wantDoms(t, goes(of(1, 2), of(3, 4), of(6), of(5), of(5), of(6), nil), -1, 0, 0, 1, 1, 1, 0)
	// two ways that cross
	wantDoms(t, goes(of(1, 2), of(3, 4), of(4, 3), of(5), of(5), nil), -1, 0, 0, 0, 0, 0)
}

// P17.3: ways that meet late, behind long parts of their own, and one that is left out far behind.
func TestDomsMeetLate(t *testing.T) {
	wantDoms(t, goes(of(1, 2), of(3), of(4), of(5), of(6), of(7), of(7), nil), -1, 0, 0, 1, 2, 3, 4, 0)
	wantDoms(t, goes(of(1), of(2), of(3, 7), of(4), of(5), of(6), of(7), of(8), nil), -1, 0, 1, 2, 3, 4, 5, 2, 7)
	wantDoms(t, goes(of(1, 7), of(2), of(3), of(4), of(5), of(6), of(7), of(8), nil), -1, 0, 1, 2, 3, 4, 5, 0, 7)
	// each is left out by one: all hang on 0
	wantDoms(t, goes(of(1, 2), of(2, 3), of(3, 4), of(4, 5), nil, nil), -1, 0, 0, 0, 0, 3)
	wantDoms(t, goes(of(1, 2), of(3), of(3, 4), of(0), of(4), of(3)), -1, 0, 0, 0, 2, -1)
}

// P17.3: a way that goes around is no other way ahead of where it comes back to.
func TestDomsCircles(t *testing.T) {
	wantDoms(t, goes(of(1), of(2), of(1, 3), nil), -1, 0, 1, 2)
	wantDoms(t, goes(of(1), of(2, 3), of(1), nil), -1, 0, 1, 1)
	wantDoms(t, goes(of(1), of(2), of(2, 3), of(1, 4), of(0, 5), nil), -1, 0, 1, 2, 3, 4)
	wantDoms(t, goes(of(1), of(1, 2), of(2, 0, 1)), -1, 0, 1)
	// a circle that is left at two places
	wantDoms(t, goes(of(1), of(2, 4), of(3), of(1, 4), nil), -1, 0, 1, 2, 1)
	// two circles with one block in common
	wantDoms(t, goes(of(1), of(2, 3, 4), of(1), of(1), nil), -1, 0, 1, 1, 1)
}

// P17.3: a circle with two ways in has none of its own blocks ahead of another, but behind the ways in.
func TestDomsTwoWaysIn(t *testing.T) {
	wantDoms(t, goes(of(1, 2), of(2), of(1)), -1, 0, 0)
	wantDoms(t, goes(of(1, 2), of(2), of(1, 3), nil), -1, 0, 0, 2)
	wantDoms(t, goes(of(1, 3), of(2), of(3), of(4), of(1)), -1, 0, 1, 0, 3)
	wantDoms(t, goes(of(1), of(2, 3), of(4), of(5), of(3, 6), of(2), nil), -1, 0, 1, 1, 2, 3, 4)
	// what is told first of one way in is mended later, over and over
	wantDoms(t, goes(of(1, 5), of(2), of(1, 3), of(2, 4), of(3, 5), of(4)), -1, 0, 0, 0, 0, 0)
}

// P17.3: blocks that cannot be come to have none, and are on no way, though they go on at others.
func TestDomsNotComeTo(t *testing.T) {
	wantDoms(t, goes(nil, nil), -1, -1)
	wantDoms(t, goes(nil, of(0)), -1, -1)
	wantDoms(t, goes(nil, of(2), of(1)), -1, -1, -1)
	wantDoms(t, goes(of(1), of(2), nil, of(2), of(3)), -1, 0, 1, -1, -1)
	wantDoms(t, goes(of(2), of(3), of(3), nil), -1, -1, 0, 2)
	wantDoms(t, goes(of(0), of(1, 0), of(3), of(2, 0)), -1, -1, -1, -1)
	wantDoms(t, goes(of(3), of(4), of(1, 3), of(4, 5), of(5), nil), -1, -1, -1, 0, 3, 3)
}

// P17.3: a long way, one that another leaves out, and two long ways that meet at each block.
func TestDomsLong(t *testing.T) {
	const count = 300
	way, ladder := make([][]int, count), make([][]int, count)
	for b := range count - 1 {
		way[b] = of(b+1, b)
	}
	for b := range count - 2 {
		ladder[b] = of(b+2, b+1)
	}
	ladder[count-2] = of(count - 1)
	line, zero := rising(-1, count-2), make([]int, count)
	zero[0] = -1
	wantDoms(t, goes(way...), line...)
	wantDoms(t, goes(ladder...), zero...)
	way[0] = of(1, count-1)
	line[count-1] = 0
	wantDoms(t, goes(way...), line...)
	// there and back, from both ends
	for b := range way {
		way[b] = append(slices.Clone(way[b]), 0, max(b-1, 0))
	}
	wantDoms(t, goes(way...), zero...)
}
