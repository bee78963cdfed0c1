package slots_test

import (
	"math"
	"slices"
	"sync"
	"testing"

	"halyard/api"
	"halyard/sample"
	"halyard/slots"
)

// rooms: the ranges in lists with room behind their ends, where there stands what would change the answers.
func rooms(list []api.Range) [][]api.Range {
	var all [][]api.Range
	for _, fill := range spans(0, math.MaxInt, -1, 5, 0, 0) {
		all = append(all, sample.InRoom(fill, list))
	}
	return all
}

// answers: all that the calls tell.
type answers struct {
	slots   []int
	n, most int
	errors  [2]api.Errno
}

func answersOf(list []api.Range) answers {
	var a answers
	a.slots, a.n, a.errors[0] = slots.Assign(list)
	a.most, a.errors[1] = slots.Most(list)
	return a
}

func (a answers) equal(b answers) bool {
	return slices.Equal(a.slots, b.slots) && a.n == b.n && a.most == b.most && a.errors == b.errors
}

// some: ranges that are sound, and such as are not.
func some() [][]api.Range {
	list := [][]api.Range{
		spans(0, 3, 1, 2, 2, 5, 3, 4), nil, spans(0, 1), spans(9, 12, 3, 4, 3, 10, 0, 9, 0, 3),
		spans(2, 3, 2, 3, 2, 3, 1, 2, 0, 1), spans(math.MaxInt-1, math.MaxInt, 0, math.MaxInt),
		slices.Repeat(spans(7, 9, 3, 8), 30),
		spans(0, 3, 1, 1), spans(4, 9, -1, 5, 3, 4), make([]api.Range, api.MaxTokens+1),
	}
	for _, r := range unsound()[:10] {
		list = append(list, append(spans(5, 9, 0, 5), r))
	}
	return list
}

// sound: how many of them are sound, which stand first.
const sound = 7

// R4: nothing that is given is changed, spare room included, be it right or wrong; nor does spare room matter.
func TestNothingIsChanged(t *testing.T) {
	for _, list := range some() {
		want := answersOf(list)
		for _, room := range rooms(list) {
			old := slices.Clone(sample.Spare(room))
			if got := answersOf(room); !got.equal(want) {
				t.Errorf("%v: %v, with spare room %v", brief(list), want, got)
			}
			if !slices.Equal(sample.Spare(room), old) {
				t.Errorf("%v was changed", brief(list))
			}
		}
	}
}

// R4: an answer shares nothing with what was handed in, or with another answer.
func TestAnswersAreNew(t *testing.T) {
	for _, list := range some()[:sound] {
		want := answersOf(list)
		for _, room := range rooms(list) {
			old := slices.Clone(sample.Spare(room))
			first, again, third := answersOf(room), answersOf(room), answersOf(room)
			if !sample.Apart([][]int{first.slots, again.slots}) {
				t.Error("answers share room")
			}
			if !third.equal(want) {
				t.Errorf("an answer hangs on the others: %v, want %v", third, want)
			}
			if !slices.Equal(sample.Spare(room), old) {
				t.Error("what was handed in hangs on the answer")
			}
			clear(sample.Spare(room))
			if !third.equal(want) {
				t.Errorf("the answer hangs on what was handed in: %v, want %v", third, want)
			}
		}
	}
}

// R5: nothing is kept, be the other call of something else or wrong; and calls at the same time do not meet.
func TestNothingIsKept(t *testing.T) {
	list := some()
	var want []answers
	for _, ranges := range list {
		want = append(want, answersOf(ranges))
	}
	var group sync.WaitGroup
	for first := range 8 {
		group.Go(func() {
			for i := range list {
				at := (i*(2*first+1) + first) % len(list)
				if got := answersOf(list[at]); !got.equal(want[at]) {
					t.Errorf("%v: %v, at first %v", brief(list[at]), got, want[at])
				}
			}
		})
	}
	group.Wait()
}

// Of one and the same list, some of it: only what is handed in counts.
func TestPartsOfAList(t *testing.T) {
	list := spans(0, 9, 0, 3, 3, 5, 1, 4, 4, 6, 2, 8, -1, 1)
	want := []int{0, 1, 1, 2, 2, 3}
	for count, n := range of(0, 1, 2, 2) {
		wantSlots(t, list[:count], n, want[:count]...)
	}
	wantSlots(t, list[:4], 3, 0, 1, 1, 2)
	wantSlots(t, list[:6], 4, 0, 1, 1, 2, 2, 3)
	wantSlots(t, list[1:6], 3, 0, 0, 1, 1, 2)
	wantSlots(t, list[2:6], 3, 2, 0, 0, 1)
	wantError(t, list, api.ErrForm)
	wantError(t, list[6:], api.ErrForm)
}
