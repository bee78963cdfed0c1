package live_test

import (
	"slices"
	"testing"
)

// P17.2: just one block, which may go on at itself.
func TestOrderOfOne(t *testing.T) {
	wantOrder(t, goes(nil), 0)
	wantOrder(t, goes(of(0)), 0)
	wantOrder(t, goes(of(0, 0, 0)), 0)
}

// P17.2: the first of Next is visited first, so it stands behind the others.
func TestOrderFirstFirst(t *testing.T) {
	wantOrder(t, goes(of(1, 2), nil, nil), 0, 2, 1)
	wantOrder(t, goes(of(2, 1), nil, nil), 0, 1, 2)
	wantOrder(t, goes(of(3, 1, 4, 2), nil, nil, nil, nil), 0, 2, 4, 1, 3)
	wantOrder(t, goes(of(1, 2), of(3), of(4), nil, nil), 0, 2, 4, 1, 3)
	wantOrder(t, goes(of(2, 1), of(3), of(4), nil, nil), 0, 1, 3, 2, 4)
	wantOrder(t, goes(of(1, 4), of(2, 3), nil, nil, of(5, 6), nil, nil), 0, 4, 6, 5, 1, 3, 2)
}

// P17.2: a block whose number stands more than once is visited at the first place.
func TestOrderOften(t *testing.T) {
	wantOrder(t, goes(of(1, 2, 1), nil, nil), 0, 2, 1)
	wantOrder(t, goes(of(2, 2, 1, 2), nil, nil), 0, 1, 2)
	wantOrder(t, goes(of(0, 2, 0, 1, 2), of(0, 0), nil), 0, 1, 2)
}

// P17.2: what has been begun is not visited again, be it done or not.
func TestOrderBegun(t *testing.T) {
	wantOrder(t, goes(of(1, 2), of(3), of(3), nil), 0, 2, 1, 3)
	wantOrder(t, goes(of(2, 1), of(3), of(3), nil), 0, 1, 2, 3)
	wantOrder(t, goes(of(1, 2), of(2), nil), 0, 1, 2)
	wantOrder(t, goes(of(2, 1), of(2), nil), 0, 1, 2)
	wantOrder(t, goes(of(1), of(0)), 0, 1)
	wantOrder(t, goes(of(1), of(2), of(1)), 0, 1, 2)
	wantOrder(t, goes(of(1), of(0, 1, 2), of(2, 1, 0)), 0, 1, 2)
	// a circle with two ways in is begun where it is come to first
	wantOrder(t, goes(of(1, 2), of(2), of(1)), 0, 1, 2)
	wantOrder(t, goes(of(2, 1), of(2), of(1)), 0, 2, 1)
	// circles within circles
	wantOrder(t, goes(of(1), of(2), of(2, 3), of(1, 4), of(0, 5), nil), 0, 1, 2, 3, 4, 5)
	wantOrder(t, goes(of(1), of(2), of(3, 2), of(4, 1), of(5, 0), nil), 0, 1, 2, 3, 4, 5)
	wantOrder(t, goes(of(5), of(2), of(3, 2), of(4, 1), of(1, 0), of(4)), 0, 5, 4, 1, 2, 3)
}

// P17.2: a block that could be come to early is come to late, by a long way through the first Next.
func TestOrderLate(t *testing.T) {
	wantOrder(t, goes(of(1, 4), of(2), of(3), of(4), nil), 0, 1, 2, 3, 4)
	wantOrder(t, goes(of(4, 1), of(2), of(3), of(4), nil), 0, 1, 2, 3, 4)
	wantOrder(t, goes(of(3, 1), of(2), nil, of(1)), 0, 3, 1, 2)
	wantOrder(t, goes(of(1, 2), of(3), of(3, 4), of(0), of(4), of(3)), 0, 2, 4, 1, 3)
	wantOrder(t, goes(of(1, 2, 3), nil, of(1, 3), of(1)), 0, 2, 3, 1)
	wantOrder(t, goes(of(1, 2, 3), of(3), of(1), of(2)), 0, 1, 3, 2)
}

// P17.2: what is not come to from block 0 is not told, wherever it goes on.
func TestOrderNotComeTo(t *testing.T) {
	wantOrder(t, goes(nil, of(0), nil), 0)
	wantOrder(t, goes(of(0), of(0, 2), of(1)), 0)
	wantOrder(t, goes(of(3), of(0, 3), of(2), nil, of(1)), 0, 3)
	wantOrder(t, goes(of(4), nil, of(4), of(2), of(5), of(4)), 0, 4, 5)
}

// P17.2: a long way forwards, backwards, and all blocks of one.
func TestOrderLong(t *testing.T) {
	const count = 300
	there, back := make([][]int, count), make([][]int, count)
	for b := range count - 1 {
		there[b] = of(b + 1)
		back[b+1] = of(b)
	}
	back[0], back[1] = of(count-1), nil
	down := rising(1, count-1)
	slices.Reverse(down)
	wantOrder(t, goes(there...), rising(0, count-1)...)
	wantOrder(t, goes(back...), append(of(0), down...)...)
	star := make([][]int, count)
	star[0] = rising(0, count-1)
	wantOrder(t, goes(star...), append(of(0), down...)...)
	slices.Reverse(star[0])
	wantOrder(t, goes(star...), rising(0, count-1)...)
	// all go on at all: the first that has not been begun is the next number
	for b := range star {
		star[b] = rising(0, count-1)
	}
	wantOrder(t, goes(star...), rising(0, count-1)...)
}
