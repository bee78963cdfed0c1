package escape_test

import (
	"slices"
	"sync"
	"testing"

	"halyard/api"
	"halyard/escape"
	"halyard/sample"
)

// R1: nothing at all, as nil and as empty lists.
func TestNothing(t *testing.T) {
	for _, points := range [][]api.Point{nil, {}, flat(3)[:0]} {
		for _, flows := range [][]api.Flow{nil, {}, fine().flows[:0]} {
			wantReach(t, points, flows, heap)
			wantEscape(t, points, flows)
			for _, root := range append(far(), 0, 1, -2) {
				wantReachError(t, points, flows, root, api.ErrNone)
			}
			wantReach(t, flat(1), flows, 0, 0)
			wantEscape(t, flat(1), flows)
		}
		wantError(t, points, fine().flows, api.ErrForm, -2, 1)
	}
}

// inRoom: a graph in lists with room behind their ends, where there stands what would make all points escape.
func inRoom(g given) given {
	g.points = sample.InRoom(api.Point{}, g.points)
	g.flows = sample.InRoom(holds(heap, 0), g.flows)
	return g
}

// opened: a graph with all its spare room in sight, in memory of its own.
func opened(g given) given {
	return given{points: slices.Clone(sample.Spare(g.points)), flows: slices.Clone(sample.Spare(g.flows))}
}

func same(a, b given) bool { return slices.Equal(a.points, b.points) && slices.Equal(a.flows, b.flows) }

// answers: all that the calls tell of a graph.
type answers struct {
	escapes []bool
	allocs  []int
	comes   [][]int
	errors  []api.Errno
}

func answersOf(g given) answers {
	var a answers
	var e api.Errno
	a.escapes, e = escape.Solve(g.points, g.flows)
	a.errors = append(a.errors, e)
	a.allocs, e = escape.Heap(g.points, g.flows)
	a.errors = append(a.errors, e)
	for root := heap; root <= len(g.points); root++ {
		list, e := escape.Reach(g.points, g.flows, root)
		a.comes, a.errors = append(a.comes, list), append(a.errors, e)
	}
	return a
}

func (a answers) equal(b answers) bool {
	return slices.Equal(a.escapes, b.escapes) && slices.Equal(a.allocs, b.allocs) && slices.EqualFunc(a.comes, b.comes, slices.Equal[[]int]) && slices.Equal(a.errors, b.errors)
}

// copied: answers that hang on no others.
func (a answers) copied() answers {
	b := answers{escapes: slices.Clone(a.escapes), allocs: slices.Clone(a.allocs), errors: slices.Clone(a.errors)}
	for _, list := range a.comes {
		b.comes = append(b.comes, slices.Clone(list))
	}
	return b
}

// some: graphs that are sound, and such as are not.
func some() []given {
	list := []given{fine(), {}, {flat(4), []api.Flow{holds(heap, 2), holds(2, 0), holds(0, 0)}}, {deep(3, 2, 1), []api.Flow{holds(2, 1), gets(1, 0, 4)}}}
	for _, do := range append(wide(), unformed()...) {
		g := fine()
		do(&g)
		list = append(list, g)
	}
	return list
}

// R4: nothing that is given is changed, spare room included, be it right or wrong; nor does spare room matter.
func TestNothingIsChanged(t *testing.T) {
	for _, g := range some() {
		want := answersOf(g)
		r := inRoom(g)
		old := opened(r)
		if got := answersOf(r); !got.equal(want) {
			t.Errorf("%v, %v: %v, with spare room %v", brief(g.points), brief(g.flows), want, got)
		}
		if !same(opened(r), old) {
			t.Errorf("%v, %v was changed", brief(g.points), brief(g.flows))
		}
	}
}

// R4: the answers share nothing with what was handed in, with one another, or with another answer.
func TestAnswersAreNew(t *testing.T) {
	for _, g := range some()[:4] {
		r := inRoom(g)
		old := opened(r)
		first, again := answersOf(r), answersOf(r)
		want := first.copied()
		if !sample.Apart(append(first.comes, first.allocs)) {
			t.Error("answers share room")
		}
		for i := range sample.Spare(first.escapes) {
			sample.Spare(first.escapes)[i] = i%2 == 0
		}
		if !again.equal(want) {
			t.Errorf("the second answer hangs on the first: %v, want %v", again, want)
		}
		if !same(opened(r), old) {
			t.Error("what was handed in hangs on the answer")
		}
		clear(sample.Spare(r.points))
		clear(sample.Spare(r.flows))
		if !again.equal(want) {
			t.Errorf("the answer hangs on what was handed in: %v, want %v", again, want)
		}
	}
}

// R5: nothing is kept, be the other call of something else or wrong; and calls at the same time do not meet.
func TestNothingIsKept(t *testing.T) {
	list := some()
	var want []answers
	for _, g := range list {
		want = append(want, answersOf(g))
	}
	var group sync.WaitGroup
	for first := range 8 {
		group.Go(func() {
			for i := range list {
				at := (i*(2*first+1) + first) % len(list)
				if got := answersOf(list[at]); !got.equal(want[at]) {
					t.Errorf("%v, %v: %v, at first %v", brief(list[at].points), brief(list[at].flows), got, want[at])
				}
			}
		})
	}
	group.Wait()
}
