package escape_test

import (
	"slices"
	"testing"

	"halyard/api"
	"halyard/escape"
)

// rising: the numbers from one on to the last.
func rising(from, last int) []int {
	var list []int
	for n := from; n <= last; n++ {
		list = append(list, n)
	}
	return list
}

// chain: from the heap on each point gets the next one, dereferenced so many times.
func chain(count, refs int) []api.Flow {
	var list []api.Flow
	for p := range count {
		list = append(list, gets(p-1, p, refs))
	}
	return list
}

// MaxPoints points and no more, with and without flows.
func TestMostPoints(t *testing.T) {
	const most, last = api.MaxPoints, api.MaxPoints - 1
	none := slices.Repeat([]int{apart}, most)
	wantReach(t, flat(most), nil, heap, none...)
	none[last] = 0
	wantReach(t, flat(most), nil, last, none...)
	wantReachError(t, flat(most), nil, most, api.ErrNone)
	wantEscape(t, flat(most), nil)
	wantEscape(t, flat(most), []api.Flow{holds(heap, last)}, last)
	wantError(t, flat(most), []api.Flow{holds(heap, most)}, api.ErrForm)
	wantError(t, flat(most), []api.Flow{holds(most, last)}, api.ErrForm)
	wantError(t, flat(most+1), nil, api.ErrLarge)
	wantError(t, flat(most+1), []api.Flow{holds(heap, last)}, api.ErrLarge)
	wantEscape(t, flat(most-1), []api.Flow{holds(heap, last-1)}, last-1)
	wantError(t, flat(most-1), []api.Flow{holds(heap, last)}, api.ErrForm)
}

// MaxTokens flows and no more: the last one counts as the first does.
func TestMostFlows(t *testing.T) {
	flows := slices.Repeat([]api.Flow{gets(0, 1, 3)}, api.MaxTokens)
	wantReach(t, flat(3), flows, 0, 0, 3, apart)
	wantEscape(t, deep(0, 1, 2), flows)
	for _, at := range []int{0, api.MaxTokens / 2, api.MaxTokens - 1} {
		flows[at] = holds(1, 2)
		wantReach(t, flat(3), flows, 0, 0, 3, 2)
		wantEscape(t, deep(0, 1, 2), flows, 2)
		flows[at] = holds(0, 1)
		wantReach(t, flat(3), flows, 0, 0, -1, apart)
		wantEscape(t, deep(0, 1, 2), flows, 1)
		flows[at] = gets(0, 1, 3)
	}
	wantError(t, flat(3), append(flows, gets(0, 1, 3)), api.ErrLarge)
}

// The greatest number with which a point may come: MaxPoints flows of MaxDepth.
func TestFarthest(t *testing.T) {
	var want []int
	for p := range api.MaxPoints {
		want = append(want, api.MaxDepth*(p+1))
	}
	flows := chain(api.MaxPoints, api.MaxDepth)
	wantReach(t, flat(api.MaxPoints), flows, heap, want...)
	slices.Reverse(flows)
	wantReach(t, flat(api.MaxPoints), flows, heap, want...)
	wantEscape(t, flat(api.MaxPoints), flows)
	// and one less by the last of them
	want[api.MaxPoints-1] = want[api.MaxPoints-2] - 1
	flows[0].Refs = -1
	wantReach(t, flat(api.MaxPoints), flows, heap, want...)
}

// All points' addresses come to the heap by one another, or to a point of a lesser Depth.
func TestLongChain(t *testing.T) {
	const most = api.MaxPoints
	all, minus := rising(0, most-1), slices.Repeat([]int{-1}, most)
	flows := chain(most, -1)
	for range 2 {
		wantReach(t, flat(most), flows, heap, minus...)
		wantEscape(t, flat(most), flows, all...)
		slices.Reverse(flows)
	}
	flows[0].Refs = 0
	wantEscape(t, flat(most), flows, all[1:]...)
	wantEscape(t, deep(all...), flows[1:], all[1:]...)
	slices.Reverse(all)
	wantEscape(t, deep(all...), flows[1:])
	// only the second is deeper than the one that gets its address, and the others escape by it
	depths := slices.Repeat([]int{4}, most)
	depths[1] = 5
	wantEscape(t, deep(depths...), flows[1:], rising(1, most-1)...)
}

// fall: a way of all points, from the heap on, that goes up at first, and comes down to the last one with what is told.
func fall(to int) []api.Flow {
	flows := chain(api.MaxPoints, -1)
	flows[0].Refs = 90
	for p := 1; p < 5; p++ {
		flows[p].Refs = api.MaxDepth
	}
	flows[5].Refs = api.MaxPoints - 6 - 90 - 4*api.MaxDepth + to
	return flows
}

// A way that comes down to an address with its last flow, or just does not.
func TestLongFall(t *testing.T) {
	const last = api.MaxPoints - 1
	for to := -2; to < 3; to++ {
		got, e := escape.Reach(flat(api.MaxPoints), fall(to), heap)
		if e != api.OK || got[4] != 490 || got[5] != last-5+to || got[last] != max(to, -1) {
			t.Errorf("Reach down to %d: %v, %d", to, got, e)
		}
	}
	wantEscape(t, flat(api.MaxPoints), fall(0))
	wantEscape(t, flat(api.MaxPoints), fall(-1), last)
	wantEscape(t, flat(api.MaxPoints), fall(-2), last-1, last)
}

// ring: a chain from the heap to the first of some points that go round, each by the next one's address but for the first, which takes refs.
func ring(before, count, refs int) []api.Flow {
	list := chain(before+1, api.MaxDepth)
	for i := range count {
		next := before + (i+1)%count
		if i == 0 {
			list = append(list, gets(before, next, refs))
			continue
		}
		list = append(list, holds(before+i, next))
	}
	return list
}

// Circles far from the heap that take off one each time, so that they are gone round very often, and such as do not.
func TestFarCircles(t *testing.T) {
	const before = 200
	for _, count := range []int{2, 3, 50, 100} {
		points := flat(before + count)
		var want []int
		for p := range before + 1 {
			want = append(want, api.MaxDepth*(p+1))
		}
		more, still := slices.Clone(want), slices.Clone(want)
		for i := 1; i < count; i++ {
			more = append(more, want[before]+count-i+1)
			still = append(still, want[before]+count-i)
		}
		wantReach(t, points, ring(before, count, count), heap, more...)
		wantReach(t, points, ring(before, count, count-1), heap, still...)
		wantEscape(t, points, ring(before, count, count-1))
		// with one less its first point comes with -1, the next one with all that it takes, and so on
		want[before] = -1
		for i := 1; i < count; i++ {
			want = append(want, count-1-i)
		}
		wantReach(t, points, ring(before, count, count-2), heap, want...)
		wantEscape(t, points, ring(before, count, count-2), before)
		for p := range before {
			want[p] -= api.MaxDepth
		}
		wantReach(t, points, ring(before, count, count-2), 0, want...)
	}
}

// All limits at once.
func TestAllAtTheLimits(t *testing.T) {
	const most = api.MaxPoints
	flows := chain(most, api.MaxDepth)
	for i := len(flows); i < api.MaxTokens; i++ {
		flows = append(flows, gets(i%most, (i*i+7*i)%most, api.MaxDepth))
	}
	wantEscape(t, deep(rising(1, most)...), flows)
	got, e := escape.Reach(deep(rising(1, most)...), flows, heap)
	if e != api.OK || slices.Min(got) != api.MaxDepth || got[0] != api.MaxDepth {
		t.Errorf("Reach: %v, %d", got, e)
	}
	for i := range flows {
		flows[i].Refs = -1
	}
	wantEscape(t, flat(most), flows, rising(0, most-1)...)
	wantReach(t, flat(most), flows, heap, slices.Repeat([]int{-1}, most)...)
}
