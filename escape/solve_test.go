package escape_test

import (
	"slices"
	"testing"

	"halyard/api"
)

// A point escapes if its address comes to the heap, and not if it comes there otherwise.
func TestToTheHeap(t *testing.T) {
	wantEscape(t, flat(2), []api.Flow{holds(heap, 1)}, 1)
	for _, refs := range []int{0, 1, 2, api.MaxDepth} {
		wantEscape(t, flat(2), []api.Flow{gets(heap, 1, refs)})
	}
	wantEscape(t, flat(3), []api.Flow{holds(heap, 0), holds(heap, 2)}, 0, 2)
	wantEscape(t, flat(3), []api.Flow{gets(heap, 0, 1), gets(heap, 1, 0), holds(heap, 1), gets(heap, 1, 2)}, 1)
}

// The heap gets it by other points: these escape only if their own addresses come there.
func TestToTheHeapByOthers(t *testing.T) {
	wantEscape(t, flat(2), []api.Flow{gets(heap, 0, 0), holds(0, 1)}, 1)
	wantEscape(t, flat(2), []api.Flow{gets(heap, 0, 1), holds(0, 1)})
	wantEscape(t, flat(2), []api.Flow{holds(heap, 0), holds(0, 1)}, 0, 1)
	wantEscape(t, flat(2), []api.Flow{holds(heap, 0), gets(0, 1, 0)}, 0)
	wantEscape(t, flat(3), []api.Flow{gets(heap, 0, 0), gets(0, 1, 0), holds(1, 2)}, 2)
	wantEscape(t, flat(3), []api.Flow{gets(heap, 0, 1), holds(0, 1), holds(1, 2)}, 2)
	wantEscape(t, flat(3), []api.Flow{gets(heap, 0, 2), holds(0, 1), holds(1, 2)})
	wantEscape(t, flat(4), []api.Flow{gets(heap, 0, 2), holds(0, 1), holds(1, 2), holds(2, 3)}, 3)
	wantEscape(t, flat(4), []api.Flow{gets(heap, 0, 0), holds(0, 1), gets(1, 2, 1), holds(2, 3)}, 1)
	wantEscape(t, flat(4), []api.Flow{gets(heap, 0, 0), holds(0, 1), gets(1, 2, 0), holds(2, 3)}, 1, 3)
}

// The least of several ways to the heap counts.
func TestToTheHeapByTheLeast(t *testing.T) {
	flows := []api.Flow{gets(heap, 0, 1), holds(0, 1)}
	wantEscape(t, flat(3), flows)
	wantEscape(t, flat(3), append(flows, gets(heap, 0, 0)), 1)
	wantEscape(t, flat(3), append(flows, gets(heap, 2, 0), gets(2, 1, 0)))
	wantEscape(t, flat(3), append(flows, gets(heap, 2, 0), gets(2, 0, 0)), 1)
	wantEscape(t, flat(3), append(flows, gets(heap, 2, 0), holds(2, 0)), 0, 1)
	wantEscape(t, flat(3), append(flows, gets(heap, 2, 1), holds(2, 0)), 1)
	// a circle takes off as much as it may
	wantEscape(t, flat(3), []api.Flow{gets(heap, 0, 90), gets(0, 1, 0), holds(1, 0), holds(1, 2)}, 0, 2)
	wantEscape(t, flat(3), []api.Flow{gets(heap, 0, 90), gets(0, 1, 1), holds(1, 0), holds(1, 2)})
}

// A point escapes if its address comes to one of a lesser Depth, not if that is the same or greater.
func TestDepths(t *testing.T) {
	depths := []int{0, 1, 2, 7, api.MaxPoints - 1, api.MaxPoints}
	for _, d := range depths {
		for _, x := range depths {
			for _, refs := range []int{-1, 0, 1} {
				var want []int
				if refs == -1 && d < x {
					want = []int{1}
				}
				wantEscape(t, deep(d, x), []api.Flow{gets(0, 1, refs)}, want...)
				wantEscape(t, deep(x, d), []api.Flow{gets(0, 0, 0), gets(1, 0, refs)}, less(want)...)
			}
		}
	}
}

// less: each number less 1.
func less(list []int) []int {
	out := slices.Clone(list)
	for i := range out {
		out[i]--
	}
	return out
}

// An address goes on by points of greater Depth to one of lesser, and to such as are neither.
func TestDepthsByOthers(t *testing.T) {
	flows := []api.Flow{gets(0, 1, 0), holds(1, 2)}
	for d := range 4 {
		wantEscape(t, deep(0, d, 0), flows)
		wantEscape(t, deep(1, d+1, 1), flows)
		wantEscape(t, deep(0, d, 1), flows, 2)
		wantEscape(t, deep(1, d+2, 2), flows, 2)
		wantEscape(t, deep(3, 2+d, 2), flows)
	}
	// its value is what comes there, or what its value names
	wantEscape(t, deep(0, 2, 2), []api.Flow{gets(0, 1, 1), holds(1, 2)})
	wantEscape(t, deep(0, 1, 2), []api.Flow{gets(0, 1, 0), gets(1, 2, 0)})
	wantEscape(t, deep(0, 2, 2), []api.Flow{gets(0, 1, 2), holds(1, 2)})
	// the middle point is the one of a lesser Depth
	wantEscape(t, deep(2, 0, 1), flows, 2)
	wantEscape(t, deep(2, 0, 1), []api.Flow{gets(0, 1, 5), holds(1, 2)}, 2)
	// and each address on the way for itself
	wantEscape(t, deep(0, 1, 2), []api.Flow{holds(0, 1), holds(1, 2)}, 1, 2)
	wantEscape(t, deep(1, 1, 2), []api.Flow{holds(0, 1), holds(1, 2)}, 2)
	wantEscape(t, deep(1, 2, 2), []api.Flow{gets(0, 1, 1), holds(1, 2)})
}

// A point escapes if its address comes to one that escapes, though neither the heap nor one of a lesser Depth has it.
func TestByOneThatEscapes(t *testing.T) {
	flows := []api.Flow{holds(0, 1), holds(1, 2)}
	for d := range 3 {
		wantEscape(t, deep(2, 3, d), flows, 1, 2)
		wantEscape(t, deep(2, 2, d), flows)
		wantEscape(t, deep(3, 2, d), flows)
	}
	// not if something else of it comes there
	wantEscape(t, deep(2, 3, 0), []api.Flow{holds(0, 1), gets(1, 2, 0)}, 1)
	wantEscape(t, deep(2, 3, 0), []api.Flow{holds(0, 1), gets(1, 2, 1)}, 1)
	// by points between, which do not escape
	wantEscape(t, deep(2, 3, 0, 0), []api.Flow{holds(0, 1), gets(1, 2, 0), holds(2, 3)}, 1, 3)
	wantEscape(t, deep(2, 3, 0, 0), []api.Flow{holds(0, 1), gets(1, 2, 1), holds(2, 3)}, 1)
	// the one that escapes is come to by the heap
	wantEscape(t, deep(5, 0), []api.Flow{holds(heap, 0), holds(0, 1)}, 0, 1)
}

// One escapes by another that escapes by a third, in any order of the points.
func TestByManyThatEscape(t *testing.T) {
	for count := 2; count < 12; count++ {
		var up, down []api.Flow
		var all []int
		for p := range count - 1 {
			up, down = append(up, holds(p, p+1)), append(down, holds(p+1, p))
			all = append(all, p+1)
		}
		depths := slices.Repeat([]int{2}, count)
		wantEscape(t, deep(depths...), up)
		wantEscape(t, deep(depths...), down)
		depths[1] = 3
		wantEscape(t, deep(depths...), up, all...)
		slices.Reverse(depths)
		wantEscape(t, deep(depths...), down, less(all)...)
		slices.Reverse(up)
		slices.Reverse(down)
		wantEscape(t, deep(depths...), down, less(all)...)
		// only what is behind the one that escapes
		slices.Reverse(depths)
		depths[1], depths[count-1] = 2, 3
		wantEscape(t, deep(depths...), up, count-1)
		// and one of a lesser Depth still has what comes to one that escapes
		depths[count-1], depths[0] = 2, 1
		wantEscape(t, deep(depths...), up, all...)
	}
}

// As few as hold: those that only one another would make escape do not.
func TestAsFewAsHold(t *testing.T) {
	ring := []api.Flow{holds(0, 1), holds(1, 2), holds(2, 0)}
	wantEscape(t, flat(3), ring)
	wantEscape(t, flat(4), append(ring, holds(3, 0)))
	wantEscape(t, flat(4), append(ring, holds(0, 3)))
	wantEscape(t, flat(3), append(ring, holds(heap, 1)), 0, 1, 2)
	wantEscape(t, deep(1, 1, 2), ring, 0, 1, 2)
	wantEscape(t, deep(1, 1, 1, 0), append(ring, gets(3, 1, 0)), 0, 1, 2)
	wantEscape(t, deep(1, 1, 1, 0), append(ring, gets(3, 1, 1)), 0, 1, 2)
	wantEscape(t, deep(1, 1, 1, 1), append(ring, gets(3, 1, 1)))
	wantEscape(t, flat(1), []api.Flow{holds(0, 0)})
	wantEscape(t, deep(api.MaxPoints), []api.Flow{holds(0, 0), gets(0, 0, 0), gets(heap, 0, 1)}, 0)
	wantEscape(t, flat(2), []api.Flow{holds(0, 0), holds(1, 1), gets(0, 1, 0), gets(1, 0, 0)})
	wantEscape(t, deep(1, 2), []api.Flow{holds(0, 0), holds(1, 1), gets(0, 1, 0)}, 1)
	wantEscape(t, deep(2, 1), []api.Flow{holds(0, 0), holds(1, 1), gets(0, 1, 0)})
}

// What has no Alloc escapes as what has it, but is not one of Heap's.
func TestAlloc(t *testing.T) {
	const count = 4
	flows := []api.Flow{holds(heap, 3), holds(heap, 0), holds(heap, 2)}
	for bits := range 1 << count {
		points := make([]api.Point, count)
		var want []int
		for p := range points {
			points[p].Alloc = bits>>p&1 != 0
			if points[p].Alloc && p != 1 {
				want = append(want, p)
			}
		}
		wantEscape(t, points, flows, 0, 2, 3)
		wantHeap(t, points, flows, want...)
		wantHeap(t, points, nil)
	}
	// by one that has no Alloc and escapes, or that has it
	points := []api.Point{{Depth: 2}, {Depth: 3}, {Depth: 2, Alloc: true}}
	wantEscape(t, points, []api.Flow{holds(0, 1), holds(1, 2)}, 1, 2)
	points[1].Alloc, points[2].Alloc = true, false
	wantEscape(t, points, []api.Flow{holds(0, 1), holds(1, 2)}, 1, 2)
	wantHeap(t, points, []api.Flow{holds(0, 1), holds(1, 2)}, 1)
}

// Heap's are rising, in whatever order they come.
func TestHeapRises(t *testing.T) {
	flows := []api.Flow{holds(heap, 4), holds(heap, 0), gets(heap, 3, 0), holds(3, 2), holds(4, 1)}
	for _, list := range turned(flows) {
		wantHeap(t, flat(6), list, 0, 1, 2, 4)
	}
}
