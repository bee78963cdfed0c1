package escape_test

import (
	"slices"
	"testing"

	"halyard/api"
)

// One flow to a root: From comes with Refs, be the root a point or the heap.
func TestOneFlow(t *testing.T) {
	for _, refs := range []int{-1, 0, 1, 2, 3, 50, api.MaxDepth - 1, api.MaxDepth} {
		wantReach(t, flat(3), []api.Flow{gets(0, 2, refs)}, 0, 0, apart, refs)
		wantReach(t, flat(3), []api.Flow{gets(2, 0, refs)}, 2, refs, apart, 0)
		wantReach(t, flat(3), []api.Flow{gets(heap, 1, refs)}, heap, apart, refs, apart)
	}
}

// Only what flows to a root comes, not what the root flows to, nor what flows elsewhere.
func TestOtherWay(t *testing.T) {
	for _, refs := range []int{-1, 0, 1} {
		flows := []api.Flow{gets(1, 0, refs), gets(heap, 0, refs), gets(2, 3, refs)}
		wantReach(t, flat(4), flows, 0, 0, apart, apart, apart)
		wantReach(t, flat(4), flows, 1, refs, 0, apart, apart)
		wantReach(t, flat(4), flows, 2, apart, apart, 0, refs)
		wantReach(t, flat(4), flows, heap, refs, apart, apart, apart)
	}
}

// A way of two flows, and of three, with what each takes: numbers add up, but from -1 on as from 0.
func TestWays(t *testing.T) {
	for _, c := range []struct{ refs, want []int }{
		{[]int{2, 3}, []int{0, 2, 5}},
		{[]int{0, 0}, []int{0, 0, 0}},
		{[]int{1, -1}, []int{0, 1, 0}},
		{[]int{2, -1}, []int{0, 2, 1}},
		{[]int{0, -1}, []int{0, 0, -1}},
		{[]int{-1, 0}, []int{0, -1, 0}},
		{[]int{-1, 1}, []int{0, -1, 1}},
		{[]int{-1, 3}, []int{0, -1, 3}},
		{[]int{-1, -1}, []int{0, -1, -1}},
		{[]int{-1, -1, 0}, []int{0, -1, -1, 0}},
		{[]int{-1, -1, 2}, []int{0, -1, -1, 2}},
		{[]int{-1, -1, -1}, []int{0, -1, -1, -1}},
		{[]int{-1, 2, -1}, []int{0, -1, 2, 1}},
		{[]int{2, -1, -1, -1, -1}, []int{0, 2, 1, 0, -1, -1}},
		{[]int{2, -1, -1, -1, -1, 4, -1}, []int{0, 2, 1, 0, -1, -1, 4, 3}},
		{[]int{api.MaxDepth, api.MaxDepth, -1}, []int{0, 100, 200, 199}},
	} {
		var up, down, there []api.Flow
		last := len(c.refs)
		for i, refs := range c.refs {
			up = append(up, gets(i, i+1, refs))
			down = append(down, gets(last-i, last-i-1, refs))
			there = append(there, gets(i-1, i, refs))
		}
		wantReach(t, flat(last+1), up, 0, c.want...)
		slices.Reverse(up)
		wantReach(t, flat(last+1), up, 0, c.want...)
		wantReach(t, flat(last), there, heap, c.want[1:]...)
		slices.Reverse(c.want)
		wantReach(t, flat(last+1), down, last, c.want...)
	}
}

// turned: the flows in all orders that come by putting the first one last, and by turning them round.
func turned(flows []api.Flow) [][]api.Flow {
	var list [][]api.Flow
	for i := range flows {
		one := slices.Concat(flows[i:], flows[:i])
		other := slices.Clone(one)
		slices.Reverse(other)
		list = append(list, one, other)
	}
	return list
}

// wantFromFirst: what comes to point 0, whatever the order of the flows, comes to the heap too, if that gets point 0.
func wantFromFirst(t *testing.T, flows []api.Flow, want ...int) {
	t.Helper()
	for _, list := range turned(flows) {
		wantReach(t, flat(len(want)), list, 0, want...)
	}
	for _, list := range turned(append(slices.Clone(flows), gets(heap, 0, 0))) {
		wantReach(t, flat(len(want)), list, heap, want...)
	}
}

// Of several ways the least counts, wherever its flows stand.
func TestLeastWay(t *testing.T) {
	wantFromFirst(t, []api.Flow{gets(0, 1, 2), gets(0, 1, 2)}, 0, 2)
	wantFromFirst(t, []api.Flow{gets(0, 1, 4), gets(0, 1, 2), gets(0, 1, 3)}, 0, 2)
	wantFromFirst(t, []api.Flow{gets(0, 1, 0), holds(0, 1), gets(0, 1, 1)}, 0, -1)
	wantFromFirst(t, []api.Flow{gets(0, 1, 3), gets(0, 2, 1), gets(2, 1, 1)}, 0, 2, 1)
	wantFromFirst(t, []api.Flow{gets(0, 1, 2), gets(0, 2, 1), gets(2, 1, 2)}, 0, 2, 1)
	wantFromFirst(t, []api.Flow{gets(0, 1, 9), gets(0, 2, 3), holds(2, 1)}, 0, 2, 3)
	wantFromFirst(t, []api.Flow{gets(0, 1, 9), holds(0, 2), gets(2, 1, 2)}, 0, 2, -1)
	wantFromFirst(t, []api.Flow{gets(0, 1, 0), holds(0, 2), gets(2, 1, 0)}, 0, 0, -1)
	wantFromFirst(t, []api.Flow{gets(0, 1, 1), gets(0, 2, 0), gets(2, 1, 1), gets(1, 3, 1)}, 0, 1, 0, 2)
}

// The least comes late, by a way of many flows, and goes on from there to what came with more by the short one.
func TestLateLeast(t *testing.T) {
	flows := []api.Flow{gets(0, 1, 50), gets(1, 2, 1), holds(2, 3), gets(3, 4, 0)}
	wantFromFirst(t, flows, 0, 50, 51, 50, 50)
	flows = append(flows, gets(0, 5, 20), holds(5, 6), holds(6, 7), holds(7, 8), gets(8, 1, 0))
	wantFromFirst(t, flows, 0, 17, 18, 17, 17, 20, 19, 18, 17)
	flows = append(flows, gets(0, 9, 3), holds(9, 10), holds(10, 11), holds(11, 12), holds(12, 13), gets(13, 14, 2), holds(14, 1))
	wantFromFirst(t, flows, 0, 1, 2, 1, 1, 20, 19, 18, 17, 3, 2, 1, 0, -1, 2)
}

// Circles that take nothing, that add and that take off. The last go round till they are at 0, wherever they are come to.
func TestCircles(t *testing.T) {
	wantFromFirst(t, []api.Flow{gets(0, 1, 0), gets(1, 0, 0)}, 0, 0)
	wantFromFirst(t, []api.Flow{gets(0, 1, 3), gets(1, 0, 2)}, 0, 3)
	wantFromFirst(t, []api.Flow{gets(0, 1, 3), holds(1, 0)}, 0, 3)
	wantFromFirst(t, []api.Flow{gets(0, 1, 7), gets(1, 2, 0), gets(2, 1, 0)}, 0, 7, 7)
	wantFromFirst(t, []api.Flow{gets(0, 1, 7), gets(1, 2, 1), holds(2, 1)}, 0, 7, 8)
	wantFromFirst(t, []api.Flow{gets(0, 1, 7), gets(1, 2, 2), holds(2, 1)}, 0, 7, 9)
	wantFromFirst(t, []api.Flow{gets(0, 1, 7), holds(1, 2), gets(2, 1, 1)}, 0, 7, 6)
	wantFromFirst(t, []api.Flow{gets(0, 1, 7), gets(1, 2, 0), holds(2, 1)}, 0, -1, 0)
	wantFromFirst(t, []api.Flow{gets(0, 1, 7), holds(1, 2), holds(2, 1)}, 0, -1, -1)
	wantFromFirst(t, []api.Flow{gets(0, 1, 7), gets(1, 2, 1), holds(2, 3), holds(3, 1)}, 0, -1, 1, 0)
	wantFromFirst(t, []api.Flow{gets(0, 1, 7), holds(1, 2), gets(2, 3, 1), holds(3, 1)}, 0, 0, -1, 1)
	wantFromFirst(t, []api.Flow{gets(0, 1, 0), gets(1, 2, 1), holds(2, 3), holds(3, 1)}, 0, -1, 1, 0)
	// from the circle on to others, one of which comes with less by itself
	wantFromFirst(t, []api.Flow{gets(0, 1, 100), gets(1, 2, 0), holds(2, 1), gets(2, 3, 5), gets(1, 4, 5), gets(0, 4, 4)}, 0, -1, 0, 5, 4)
	// two circles, one behind the other
	wantFromFirst(t, []api.Flow{gets(0, 1, 100), gets(1, 2, 1), holds(2, 3), holds(3, 1), gets(1, 4, 100), gets(4, 5, 0), holds(5, 4)}, 0, -1, 1, 0, -1, 0)
}

// Flows from a point to itself.
func TestToItself(t *testing.T) {
	for _, refs := range []int{0, 1, api.MaxDepth} {
		wantReach(t, flat(2), []api.Flow{gets(0, 0, refs)}, 0, 0, apart)
		wantReach(t, flat(2), []api.Flow{gets(0, 0, refs)}, 1, apart, 0)
		wantReach(t, flat(2), []api.Flow{gets(0, 0, refs), gets(heap, 0, 5)}, heap, 5, apart)
	}
	wantFromFirst(t, []api.Flow{holds(0, 0)}, -1)
	wantFromFirst(t, []api.Flow{holds(0, 0), gets(0, 1, 2)}, -1, 2)
	wantFromFirst(t, []api.Flow{gets(0, 0, 1), gets(0, 1, 2), holds(0, 0)}, -1, 2)
	wantFromFirst(t, []api.Flow{gets(0, 1, 90), holds(1, 1), gets(1, 2, 3)}, 0, -1, 3)
	wantReach(t, flat(2), []api.Flow{holds(0, 0)}, heap, apart, apart)
	wantReach(t, flat(2), []api.Flow{holds(0, 0)}, 1, apart, 0)
}

// A root's own number is 0, or -1 if its address comes to it by others.
func TestRootItself(t *testing.T) {
	wantReach(t, flat(2), []api.Flow{gets(0, 1, 0), gets(1, 0, 0)}, 1, 0, 0)
	wantReach(t, flat(2), []api.Flow{gets(0, 1, 1), gets(1, 0, 1)}, 1, 1, 0)
	wantReach(t, flat(2), []api.Flow{holds(0, 1), gets(1, 0, 0)}, 1, 0, -1)
	wantReach(t, flat(2), []api.Flow{gets(0, 1, 0), holds(1, 0)}, 1, -1, 0)
	wantReach(t, flat(2), []api.Flow{gets(0, 1, 1), holds(1, 0)}, 1, -1, 0)
	wantReach(t, flat(2), []api.Flow{holds(0, 1), holds(1, 0)}, 1, -1, -1)
}

// Points come to the heap by other points alone, and some do not.
func TestHeapAsRoot(t *testing.T) {
	flows := []api.Flow{gets(heap, 3, 2), gets(3, 1, 1), holds(1, 4), gets(0, 1, 0), gets(2, 2, 0)}
	wantReach(t, flat(6), flows, heap, apart, 3, apart, 2, 2, apart)
	wantReach(t, flat(6), append(flows, holds(heap, 0)), heap, -1, 0, apart, 2, -1, apart)
	wantReach(t, flat(6), append(flows, holds(heap, 1)), heap, apart, -1, apart, 2, -1, apart)
	wantReach(t, flat(6), append(flows, gets(heap, 2, 9)), heap, apart, 3, 9, 2, 2, apart)
}

// Neither Depth nor Alloc matters to what comes where.
func TestOnlyFlowsMatter(t *testing.T) {
	flows := []api.Flow{gets(0, 1, 2), holds(1, 2), holds(2, 0), gets(heap, 1, 0)}
	for _, points := range [][]api.Point{make([]api.Point, 3), flat(3), deep(0, 1, 2), deep(api.MaxPoints, 0, 3), {{Depth: 3}, {}, {Alloc: true}}} {
		wantReach(t, points, flows, 0, 0, 2, 1)
		wantReach(t, points, flows, 1, -1, 0, -1)
		wantReach(t, points, flows, 2, -1, 2, 0)
		wantReach(t, points, flows, heap, -1, 0, -1)
	}
}
