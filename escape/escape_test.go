package escape_test

import (
	"slices"
	"testing"

	"halyard/api"
	"halyard/escape"
)

// heap and apart: as a root or a To, and what Reach tells of a point that does not come.
const heap, apart = -1, -2

// gets: to gets from, dereferenced so many times.
func gets(to, from, refs int) api.Flow { return api.Flow{To: to, From: from, Refs: refs} }

// holds: to gets from's address.
func holds(to, from int) api.Flow { return gets(to, from, -1) }

// deep: points of these depths, which all have Alloc.
func deep(depths ...int) []api.Point {
	var list []api.Point
	for _, d := range depths {
		list = append(list, api.Point{Depth: d, Alloc: true})
	}
	return list
}

// flat: so many points of one depth, which all have Alloc.
func flat(count int) []api.Point { return deep(slices.Repeat([]int{1}, count)...) }

// brief: what is told of a list in a fault, which may be very long.
func brief[T any](list []T) []T { return list[:min(len(list), 12)] }

// differ: where two lists differ first.
func differ[T comparable](a, b []T) int {
	for i := range min(len(a), len(b)) {
		if a[i] != b[i] {
			return i
		}
	}
	return min(len(a), len(b))
}

func wantReach(t *testing.T, points []api.Point, flows []api.Flow, root int, want ...int) {
	t.Helper()
	if got, e := escape.Reach(points, flows, root); e != api.OK || !slices.Equal(got, want) {
		at := differ(got, want)
		t.Errorf("Reach of %v, %v, %d: from %d on %v, %d, want %v", brief(points), brief(flows), root, at, brief(got[at:]), e, brief(want[at:]))
	}
}

// wantEscape: these points escape and no others. Those of them that have Alloc are Heap's.
func wantEscape(t *testing.T, points []api.Point, flows []api.Flow, want ...int) {
	t.Helper()
	all := make([]bool, len(points))
	for _, p := range want {
		all[p] = true
	}
	if got, e := escape.Solve(points, flows); e != api.OK || !slices.Equal(got, all) {
		at := differ(got, all)
		t.Errorf("Solve of %v, %v: from %d on %v, %d, want %v", brief(points), brief(flows), at, brief(got[at:]), e, brief(all[at:]))
	}
	var allocs []int
	for p := range points {
		if all[p] && points[p].Alloc {
			allocs = append(allocs, p)
		}
	}
	wantHeap(t, points, flows, allocs...)
}

func wantHeap(t *testing.T, points []api.Point, flows []api.Flow, want ...int) {
	t.Helper()
	if got, e := escape.Heap(points, flows); e != api.OK || !slices.Equal(got, want) {
		at := differ(got, want)
		t.Errorf("Heap of %v, %v: from %d on %v, %d, want %v", brief(points), brief(flows), at, brief(got[at:]), e, brief(want[at:]))
	}
}

// wantError: of all three calls, whatever the root.
func wantError(t *testing.T, points []api.Point, flows []api.Flow, want api.Errno, roots ...int) {
	t.Helper()
	if got, e := escape.Solve(points, flows); e != want || len(got) > 0 {
		t.Errorf("Solve of %v, %v: %v, %d, want the error %d", brief(points), brief(flows), brief(got), e, want)
	}
	if got, e := escape.Heap(points, flows); e != want || len(got) > 0 {
		t.Errorf("Heap of %v, %v: %v, %d, want the error %d", brief(points), brief(flows), brief(got), e, want)
	}
	for _, root := range append(roots, -1, 0) {
		wantReachError(t, points, flows, root, want)
	}
}

func wantReachError(t *testing.T, points []api.Point, flows []api.Flow, root int, want api.Errno) {
	t.Helper()
	if got, e := escape.Reach(points, flows, root); e != want || len(got) > 0 {
		t.Errorf("Reach of %v, %v, %d: %v, %d, want the error %d", brief(points), brief(flows), root, brief(got), e, want)
	}
}

// The chapter's example.
func TestExample(t *testing.T) {
	const p, x = 0, 1
	points := []api.Point{{Depth: 1}, {Depth: 1, Alloc: true}}
	flows := []api.Flow{holds(p, x)}
	wantEscape(t, points, flows)
	wantReach(t, points, flows, p, 0, -1)
	wantEscape(t, []api.Point{{}, points[x]}, flows, x)
	wantEscape(t, points, append(flows, gets(heap, p, 0)), x)
	flows = append(flows, gets(heap, p, 1))
	wantEscape(t, points, flows)
	wantReach(t, points, flows, heap, 1, 0)
}

// Nothing flows: only a root comes to itself, and nothing escapes, however deep.
func TestNoFlows(t *testing.T) {
	points := deep(0, api.MaxPoints, 1)
	for _, flows := range [][]api.Flow{nil, {}} {
		wantReach(t, points, flows, heap, apart, apart, apart)
		wantReach(t, points, flows, 0, 0, apart, apart)
		wantReach(t, points, flows, 1, apart, 0, apart)
		wantReach(t, points, flows, 2, apart, apart, 0)
		wantEscape(t, points, flows)
	}
}

// What some function does: a local whose address is stored behind a parameter leaves, one whose value alone is read does not.
func TestFunction(t *testing.T) {
	const param, kept, pointer, read, result = 0, 1, 2, 3, 4
	points := deep(1, 1, 1, 1, 0)
	flows := []api.Flow{
		holds(heap, kept),      // *param = &kept
		gets(param, param, 1),  // param = *param
		holds(pointer, read),   // pointer = &read
		gets(read, pointer, 1), // read = *pointer
		gets(result, read, 0),  // return read
	}
	wantReach(t, points, flows, heap, apart, -1, apart, apart, apart)
	wantReach(t, points, flows, param, 0, apart, apart, apart, apart)
	wantReach(t, points, flows, pointer, apart, apart, 0, -1, apart)
	wantReach(t, points, flows, read, apart, apart, 1, 0, apart)
	wantReach(t, points, flows, result, apart, apart, 1, 0, 0)
	wantEscape(t, points, flows, kept)
	// return pointer
	wantEscape(t, points, append(flows, gets(result, pointer, 0)), kept, read)
	// param = &pointer leaves by the heap, and with it what pointer names
	wantEscape(t, points, append(flows, gets(heap, param, 0), holds(param, pointer)), kept, pointer, read)
}
