package escape_test

import (
	"math"
	"slices"
	"testing"

	"halyard/api"
	"halyard/escape"
)

// far: numbers that are right for nothing.
func far() []int {
	return []int{-3, -100, 513, 10000, 1 << 32, 1<<32 + 1, -1 << 32, math.MinInt, math.MinInt + 1, math.MaxInt, math.MaxInt - 1}
}

// given is a graph.
type given struct {
	points []api.Point
	flows  []api.Flow
}

// fine: a graph of three points, which is sound.
func fine() given {
	return given{points: deep(0, 1, 2), flows: []api.Flow{gets(0, 1, 0), holds(1, 2), gets(heap, 0, 3)}}
}

// change is one thing that is done to a graph.
type change func(g *given)

// wide: what is ErrLarge.
func wide() []change {
	var list []change
	for _, more := range []int{1, 2, 1000} {
		points := func(g *given) { g.points = flat(api.MaxPoints + more) }
		flows := func(g *given) { g.flows = slices.Repeat([]api.Flow{gets(0, 1, 0)}, api.MaxTokens+more) }
		both := func(g *given) {
			points(g)
			flows(g)
		}
		list = append(list, points, flows, both)
	}
	return list
}

// unformed: what is ErrForm. Each field is wrong by itself, in the first, the middle and the last of a list.
func unformed() []change {
	list := []change{
		func(g *given) { g.points = nil },
		func(g *given) { g.points, g.flows = nil, []api.Flow{{}} },
		func(g *given) { g.points, g.flows = nil, []api.Flow{gets(heap, 0, 0)} },
		func(g *given) { g.points, g.flows = nil, []api.Flow{gets(heap, heap, 0)} },
		func(g *given) { g.flows[0] = gets(heap, heap, 0) },
		func(g *given) { g.flows[1] = holds(0, heap) },
		func(g *given) { g.points = g.points[:2] },
		func(g *given) { g.points = g.points[:1] },
	}
	put := func(numbers []int, do func(g *given, at, n int)) {
		for _, n := range append(far(), numbers...) {
			for at := range 3 {
				list = append(list, func(g *given) { do(g, at, n) })
			}
		}
	}
	put([]int{-1, -2, api.MaxPoints + 1}, func(g *given, at, n int) { g.points[at].Depth = n })
	put([]int{-2, 3, 4}, func(g *given, at, n int) { g.flows[at].To = n })
	put([]int{-1, -2, 3, 4}, func(g *given, at, n int) { g.flows[at].From = n })
	put([]int{-2, api.MaxDepth + 1, api.MaxDepth + 2}, func(g *given, at, n int) { g.flows[at].Refs = n })
	return list
}

func TestFine(t *testing.T) {
	g := fine()
	wantReach(t, g.points, g.flows, heap, 3, 3, 2)
	wantReach(t, g.points, g.flows, 0, 0, 0, -1)
	wantEscape(t, g.points, g.flows, 2)
}

// Each of these alone is its error, of all calls, whatever the root.
func TestEachError(t *testing.T) {
	roots := append(far(), -2, 1, 2, 3)
	for _, do := range wide() {
		g := fine()
		do(&g)
		wantError(t, g.points, g.flows, api.ErrLarge, roots...)
	}
	for _, do := range unformed() {
		g := fine()
		do(&g)
		wantError(t, g.points, g.flows, api.ErrForm, roots...)
	}
}

// ErrLarge stands ahead of ErrForm, wherever the two faults are.
func TestLargeFirst(t *testing.T) {
	for _, do := range unformed() {
		g := fine()
		do(&g)
		points := append(g.points, flat(api.MaxPoints+1-len(g.points))...)
		wantError(t, points, g.flows, api.ErrLarge, -2)
		slices.Reverse(points)
		wantError(t, points, g.flows, api.ErrLarge, -2)
		flows := append(g.flows, slices.Repeat([]api.Flow{gets(0, 0, 0)}, api.MaxTokens+1-len(g.flows))...)
		wantError(t, g.points, flows, api.ErrLarge, -2)
		wantError(t, g.points, flows[:api.MaxTokens], api.ErrForm, -2)
		slices.Reverse(flows)
		wantError(t, g.points, flows, api.ErrLarge, -2)
		wantError(t, g.points, flows[1:], api.ErrForm, -2)
	}
}

// A root that is neither the heap nor a point is ErrNone.
func TestNoRoot(t *testing.T) {
	for count := range 5 {
		for _, flows := range [][]api.Flow{nil, slices.Repeat([]api.Flow{gets(heap, 0, 0)}, min(count, 2))} {
			for root := range count {
				if got, e := escape.Reach(flat(count), flows, root); e != api.OK || len(got) != count || got[root] != 0 {
					t.Errorf("Reach of %d points, %d: %v, %d", count, root, got, e)
				}
			}
			if got, e := escape.Reach(flat(count), flows, heap); e != api.OK || len(got) != count {
				t.Errorf("Reach of %d points, the heap: %v, %d", count, got, e)
			}
			for _, root := range append(far(), -2, count, count+1, count+2) {
				wantReachError(t, flat(count), flows, root, api.ErrNone)
			}
		}
	}
}

// The ends of what is right, in each field.
func TestEnds(t *testing.T) {
	for _, d := range []int{0, 1, api.MaxPoints - 1, api.MaxPoints} {
		wantEscape(t, deep(d), nil)
		wantEscape(t, deep(0, d, 1), nil)
	}
	for _, d := range []int{-1, api.MaxPoints + 1} {
		wantError(t, deep(d), nil, api.ErrForm)
		wantError(t, deep(0, 1, d), nil, api.ErrForm)
	}
	for to := -1; to < 3; to++ {
		for from := range 3 {
			for _, refs := range []int{-1, 0, 1, api.MaxDepth - 1, api.MaxDepth} {
				wantReach(t, flat(3), []api.Flow{gets(to, from, refs)}, to, one(to, from, refs)...)
			}
			for _, refs := range []int{-2, api.MaxDepth + 1} {
				wantError(t, flat(3), []api.Flow{gets(to, from, refs)}, api.ErrForm)
			}
		}
	}
	for _, wrong := range [][2]int{{-2, 0}, {3, 0}, {0, -1}, {0, 3}, {-1, -1}, {3, 3}, {-2, -2}} {
		wantError(t, flat(3), []api.Flow{gets(wrong[0], wrong[1], 0)}, api.ErrForm)
	}
}

// one: what one flow makes of three points, with its To as the root.
func one(to, from, refs int) []int {
	want := []int{apart, apart, apart}
	want[from] = refs
	switch {
	case to == from:
		want[to] = min(0, refs)
	case to != heap:
		want[to] = 0
	}
	return want
}
