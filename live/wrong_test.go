package live_test

import (
	"slices"
	"sync"
	"testing"

	"halyard/api"
	"halyard/live"
	"halyard/sample"
)

// inRoom: blocks in lists with room behind their ends, where there stands what would change all answers.
func inRoom(blocks []api.Block) []api.Block {
	room := sample.InRoom(api.Block{Use: of(0), Next: of(0)}, blocks)
	for i := range room {
		b := &room[i]
		b.Use, b.Def, b.Next = sample.InRoom(0, b.Use), sample.InRoom(1, b.Def), sample.InRoom(0, b.Next)
	}
	return room
}

// opened: blocks with all their spare room in sight, in memory of its own.
func opened(blocks []api.Block) []api.Block {
	list := slices.Clone(sample.Spare(blocks))
	for i := range list {
		b := &list[i]
		b.Use, b.Def, b.Next = slices.Clone(sample.Spare(b.Use)), slices.Clone(sample.Spare(b.Def)), slices.Clone(sample.Spare(b.Next))
	}
	return list
}

// wipe: all that was handed in is something else.
func wipe(blocks []api.Block) {
	for _, b := range sample.Spare(blocks) {
		clear(sample.Spare(b.Use))
		clear(sample.Spare(b.Def))
		clear(sample.Spare(b.Next))
	}
	clear(sample.Spare(blocks))
}

func sameBlocks(a, b []api.Block) bool {
	return slices.EqualFunc(a, b, func(a, b api.Block) bool {
		return slices.Equal(a.Use, b.Use) && slices.Equal(a.Def, b.Def) && slices.Equal(a.Next, b.Next)
	})
}

// answers: all that the calls tell.
type answers struct {
	in, out     [][]int
	order, doms []int
	errors      [3]api.Errno
}

func answersOf(g given) answers {
	var a answers
	a.in, a.out, a.errors[0] = live.Solve(g.blocks, g.vars)
	a.order, a.errors[1] = live.Order(g.blocks)
	a.doms, a.errors[2] = live.Doms(g.blocks)
	return a
}

func (a answers) equal(b answers) bool {
	return same(a.in, b.in) && same(a.out, b.out) && slices.Equal(a.order, b.order) && slices.Equal(a.doms, b.doms) && a.errors == b.errors
}

// lists: all lists of the answers.
func (a answers) lists() [][]int {
	return append(slices.Concat(sample.Spare(a.in), sample.Spare(a.out)), a.order, a.doms)
}

// some: blocks that are sound, and such as are not.
func some() []given {
	list := []given{
		{fine(), 3}, {nil, 0}, {goes(nil), 1}, {goes(of(1, 2), of(2), of(0)), 2},
		{with(goes(of(1, 2), of(3), of(3), of(1, 4), nil), 0, of(3, 4), of(1)), 1},
		{with(with(chain(40), 1, of(39), of(3)), 0, of(20), of(0)), 2},
		{fine(), 2}, {fine(), -1}, {fine(), api.MaxLocals + 1}, {make([]api.Block, api.MaxPoints+1), 4},
	}
	for i, blocks := range unsound() {
		if i%7 == 0 {
			list = append(list, given{blocks, 3})
		}
	}
	return list
}

// R4: nothing that is given is changed, spare room included, be it right or wrong; nor does spare room matter.
func TestNothingIsChanged(t *testing.T) {
	for _, g := range some() {
		want := answersOf(g)
		r := given{inRoom(g.blocks), g.vars}
		old := opened(r.blocks)
		if got := answersOf(r); !got.equal(want) {
			t.Errorf("%v, %d: %v, with spare room %v", brief(g.blocks), g.vars, want, got)
		}
		if !sameBlocks(opened(r.blocks), old) {
			t.Errorf("%v, %d was changed", brief(g.blocks), g.vars)
		}
	}
}

// R4: the answers share nothing with what was handed in, with one another, or with another answer.
func TestAnswersAreNew(t *testing.T) {
	for _, g := range some()[:6] {
		r := given{inRoom(g.blocks), g.vars}
		old := opened(r.blocks)
		want, first, again := answersOf(g), answersOf(r), answersOf(r)
		if !sample.Apart(first.lists()) {
			t.Error("answers share room")
		}
		out := slices.Clone(first.out)
		clear(sample.Spare(first.in))
		if !same(first.out, out) {
			t.Error("in and out share room")
		}
		clear(sample.Spare(first.out))
		if !again.equal(want) {
			t.Errorf("the second answer hangs on the first: %v, want %v", again, want)
		}
		if !sameBlocks(opened(r.blocks), old) {
			t.Error("what was handed in hangs on the answer")
		}
		wipe(r.blocks)
		if !again.equal(want) {
			t.Errorf("the answer hangs on what was handed in: %v, want %v", again, want)
		}
	}
}

// R5: nothing is kept, be the other call of something else or wrong; and calls at the same time do not meet.
func TestNothingIsKept(t *testing.T) {
	list := some()
	var want []answers
	for _, g := range list {
		want = append(want, answersOf(g))
	}
	var group sync.WaitGroup
	for first := range 8 {
		group.Go(func() {
			for i := range list {
				at := (i*(2*first+1) + first) % len(list)
				if got := answersOf(list[at]); !got.equal(want[at]) {
					t.Errorf("%v, %d: %v, at first %v", brief(list[at].blocks), list[at].vars, got, want[at])
				}
			}
		})
	}
	group.Wait()
}

// Nil and empty lists are the same to all calls.
func TestNilAndEmpty(t *testing.T) {
	empty := api.Block{Use: of(), Def: of(), Next: of()}
	for _, blocks := range [][]api.Block{{{}, {}}, {empty, empty}, {{}, empty}, {{Use: of(), Next: of(4)[:0]}, {Def: of(4)[:0]}}} {
		for _, vars := range []int{0, 3} {
			wantSolve(t, blocks, vars, need{}, need{})
		}
		wantOrder(t, blocks, 0)
		wantDoms(t, blocks, -1, -1)
	}
}
