package slots_test

import (
	"slices"
	"testing"

	"halyard/api"
	"halyard/slots"
)

// of: a list of numbers.
func of(list ...int) []int { return list }

// spans: ranges, of each its From and its To.
func spans(numbers ...int) []api.Range {
	var list []api.Range
	for i := 0; i < len(numbers); i += 2 {
		list = append(list, api.Range{From: numbers[i], To: numbers[i+1]})
	}
	return list
}

// brief: what is told of a list in a fault, which may be very long.
func brief[T any](list []T) []T { return list[:min(len(list), 12)] }

func wantAssign(t *testing.T, list []api.Range, n int, want ...int) {
	t.Helper()
	if got, m, e := slots.Assign(list); e != api.OK || m != n || !slices.Equal(got, want) {
		t.Errorf("Assign of %v: %v, %d, %d, want %v, %d", brief(list), brief(got), m, e, brief(want), n)
	}
}

func wantMost(t *testing.T, list []api.Range, want int) {
	t.Helper()
	if got, e := slots.Most(list); e != api.OK || got != want {
		t.Errorf("Most of %v: %d, %d, want %d", brief(list), got, e, want)
	}
}

// wantSlots: these slots, and as many ranges at one moment as slots are used.
func wantSlots(t *testing.T, list []api.Range, n int, want ...int) {
	t.Helper()
	wantAssign(t, list, n, want...)
	wantMost(t, list, n)
}

// wantError: of both calls.
func wantError(t *testing.T, list []api.Range, want api.Errno) {
	t.Helper()
	if got, n, e := slots.Assign(list); e != want || n != 0 || len(got) > 0 {
		t.Errorf("Assign of %v: %v, %d, %d, want the error %d", brief(list), brief(got), n, e, want)
	}
	if got, e := slots.Most(list); e != want || got != 0 {
		t.Errorf("Most of %v: %d, %d, want the error %d", brief(list), got, e, want)
	}
}

// The chapter's example.
func TestExample(t *testing.T) { wantSlots(t, spans(0, 3, 1, 2, 2, 5, 3, 4), 2, 0, 1, 1, 0) }

// R1: no ranges, as nil and as an empty list: no slots.
func TestNoRanges(t *testing.T) {
	for _, list := range [][]api.Range{nil, {}, spans(-1, -1)[:0], make([]api.Range, 0, api.MaxTokens+1)} {
		wantSlots(t, list, 0)
	}
}

// One range has slot 0, whenever it lives.
func TestOneRange(t *testing.T) {
	for _, from := range of(0, 1, 2, 100, api.MaxTokens, api.MaxTokens+1, 1<<32) {
		for _, length := range of(1, 2, 3, 1000, 1<<33) {
			wantSlots(t, spans(from, from+length), 1, 0)
		}
	}
}

// Variables of some function: each slot serves several of them.
func TestFunction(t *testing.T) {
	list := spans(0, 20, 1, 6, 2, 4, 5, 9, 6, 12, 9, 10, 11, 19, 12, 15, 16, 18)
	wantSlots(t, list, 3, 0, 1, 2, 2, 1, 2, 2, 1, 1)
}

// P18.1: the ranges are taken by From, whatever their places in the list.
func TestTakenByFrom(t *testing.T) {
	wantSlots(t, spans(0, 9, 1, 9, 2, 9), 3, 0, 1, 2)
	wantSlots(t, spans(2, 9, 1, 9, 0, 9), 3, 2, 1, 0)
	wantSlots(t, spans(1, 9, 2, 9, 0, 9), 3, 1, 2, 0)
	wantSlots(t, spans(2, 9, 0, 9, 1, 9), 3, 2, 0, 1)
	// not by To, nor by how long they live
	wantSlots(t, spans(0, 9, 1, 4, 2, 3), 3, 0, 1, 2)
	wantSlots(t, spans(2, 3, 1, 4, 0, 9), 3, 2, 1, 0)
	wantSlots(t, spans(1, 2, 0, 5), 2, 1, 0)
	wantSlots(t, spans(3, 4, 1, 9, 2, 5, 0, 2), 3, 2, 1, 0, 0)
	// numbers of several digits and words
	wantSlots(t, spans(10, 1<<40, 9, 1<<40, 100, 1<<40, 1<<32, 1<<40, 1<<31, 1<<40), 5, 1, 0, 2, 4, 3)
}

// P18.1: of several with one From the least number goes first, whatever their To.
func TestOneFrom(t *testing.T) {
	wantSlots(t, spans(0, 1, 0, 2), 2, 0, 1)
	wantSlots(t, spans(0, 2, 0, 1), 2, 0, 1)
	wantSlots(t, spans(3, 9, 3, 5, 3, 7, 3, 4), 4, 0, 1, 2, 3)
	wantSlots(t, spans(3, 4, 3, 7, 3, 5, 3, 9), 4, 0, 1, 2, 3)
	// with others ahead of them and between
	wantSlots(t, spans(5, 9, 0, 9, 5, 6, 0, 9, 5, 8), 5, 2, 0, 3, 1, 4)
	wantSlots(t, spans(5, 9, 0, 5, 5, 6, 0, 5, 5, 8), 3, 0, 0, 1, 1, 2)
	wantSlots(t, spans(5, 9, 0, 9, 5, 6, 0, 2, 5, 8), 4, 1, 0, 2, 1, 3)
}

// Many with one From, and many with two, which take turns: still by their numbers.
func TestManyWithOneFrom(t *testing.T) {
	const count = 1000
	var one, two []api.Range
	var wantOne, wantTwo []int
	for i := range count {
		end := 8 + i*619%count
		one, wantOne = append(one, api.Range{From: 7, To: end}), append(wantOne, i)
		two, wantTwo = append(two, api.Range{From: 7 - i%2, To: end}), append(wantTwo, i/2+(1-i%2)*count/2)
	}
	wantSlots(t, one, count, wantOne...)
	wantSlots(t, two, count, wantTwo...)
}

// All ranges alike: none shares a slot.
func TestAllAlike(t *testing.T) {
	for _, r := range spans(0, 1, 0, 9, 4, 5, 4, 1000) {
		for count := range 20 {
			list := slices.Repeat([]api.Range{r}, count)
			var want []int
			for i := range count {
				want = append(want, i)
			}
			wantSlots(t, list, count, want...)
		}
	}
}

// A range ends before its To: one that begins there may have its slot, one that begins a moment earlier not.
func TestEndsAndBegins(t *testing.T) {
	wantSlots(t, spans(0, 3, 3, 5), 1, 0, 0)
	wantSlots(t, spans(0, 3, 2, 5), 2, 0, 1)
	wantSlots(t, spans(0, 3, 4, 5), 1, 0, 0)
	wantSlots(t, spans(3, 5, 0, 3), 1, 0, 0)
	wantSlots(t, spans(2, 5, 0, 3), 2, 1, 0)
	wantSlots(t, spans(0, 1, 1, 2), 1, 0, 0)
	wantSlots(t, spans(1, 2, 0, 1), 1, 0, 0)
	// several end, and several begin
	wantSlots(t, spans(0, 3, 1, 3, 3, 5, 3, 4), 2, 0, 1, 0, 1)
	wantSlots(t, spans(0, 3, 1, 3, 2, 4, 3, 5, 3, 4), 3, 0, 1, 2, 0, 1)
	wantSlots(t, spans(0, 3, 1, 4, 3, 5, 3, 4, 4, 6), 3, 0, 1, 0, 2, 1)
}

// Ranges that follow one another have one slot, with and without time between.
func TestFollowOneAnother(t *testing.T) {
	wantSlots(t, spans(0, 1, 1, 2, 2, 3, 3, 4, 4, 5), 1, 0, 0, 0, 0, 0)
	wantSlots(t, spans(4, 5, 3, 4, 2, 3, 1, 2, 0, 1), 1, 0, 0, 0, 0, 0)
	wantSlots(t, spans(0, 2, 5, 6, 9, 20, 30, 31), 1, 0, 0, 0, 0)
	// two rows of them, which cross
	wantSlots(t, spans(0, 2, 1, 3, 2, 4, 3, 5, 4, 6), 2, 0, 1, 0, 1, 0)
	wantSlots(t, spans(4, 6, 3, 5, 2, 4, 1, 3, 0, 2), 2, 0, 1, 0, 1, 0)
}

// Ranges within others.
func TestWithinOthers(t *testing.T) {
	wantSlots(t, spans(0, 9, 1, 8, 2, 7, 3, 6, 4, 5), 5, 0, 1, 2, 3, 4)
	wantSlots(t, spans(4, 5, 3, 6, 2, 7, 1, 8, 0, 9), 5, 4, 3, 2, 1, 0)
	wantSlots(t, spans(0, 9, 0, 3, 3, 6, 6, 9), 2, 0, 1, 1, 1)
	wantSlots(t, spans(0, 3, 3, 6, 6, 9, 0, 9), 2, 0, 0, 0, 1)
	wantSlots(t, spans(0, 9, 1, 5, 2, 3, 3, 4, 5, 8, 6, 7), 3, 0, 1, 2, 2, 1, 2)
}

// P18.1: of several free slots the least is taken, in whatever order they came free.
func TestLeastOfSeveral(t *testing.T) {
	wantSlots(t, spans(0, 1, 0, 2, 0, 3, 4, 9), 3, 0, 1, 2, 0)
	wantSlots(t, spans(0, 3, 0, 2, 0, 1, 4, 9), 3, 0, 1, 2, 0)
	wantSlots(t, spans(0, 2, 0, 3, 0, 1, 4, 9, 4, 9, 4, 9, 4, 9), 4, 0, 1, 2, 0, 1, 2, 3)
	wantSlots(t, spans(0, 3, 0, 1, 0, 2, 4, 9, 5, 9, 6, 9, 7, 9), 4, 0, 1, 2, 0, 1, 2, 3)
	// 0 is held all the time, or a middle one
	wantSlots(t, spans(0, 9, 0, 3, 0, 2, 0, 1, 4, 9, 5, 9), 4, 0, 1, 2, 3, 1, 2)
	wantSlots(t, spans(0, 3, 0, 9, 0, 2, 0, 1, 4, 9, 5, 9, 6, 9), 4, 0, 1, 2, 3, 0, 2, 3)
	// one comes free behind the other, between those that begin
	wantSlots(t, spans(0, 6, 0, 4, 0, 2, 2, 9, 4, 9, 6, 9), 3, 0, 1, 2, 2, 1, 0)
	wantSlots(t, spans(0, 6, 0, 4, 0, 2, 3, 9, 7, 9, 8, 9), 3, 0, 1, 2, 2, 0, 1)
	// not the one that came free last, nor the first
	wantSlots(t, spans(0, 2, 0, 1, 0, 3, 3, 9), 3, 0, 1, 2, 0)
	wantSlots(t, spans(0, 9, 0, 2, 0, 3, 0, 1, 3, 9), 4, 0, 1, 2, 3, 1)
}

// Every order in which five slots come free: the least is taken each time.
func TestAllOrdersOfEnds(t *testing.T) {
	count := 0
	var put func(ends []int)
	put = func(ends []int) {
		if len(ends) == 5 {
			count++
			var list []api.Range
			for _, end := range ends {
				list = append(list, api.Range{From: 0, To: end})
			}
			list = append(list, spans(5, 99, 6, 99, 7, 99, 7, 99, 8, 99, 9, 99)...)
			wantSlots(t, list, 6, 0, 1, 2, 3, 4, 0, 1, 2, 3, 4, 5)
			return
		}
		for end := 1; end <= 5; end++ {
			if !slices.Contains(ends, end) {
				put(append(slices.Clone(ends), end))
			}
		}
	}
	put(nil)
	if count != 120 {
		t.Errorf("%d orders", count)
	}
}

// A slot that came free is taken again, and again, and its last range is what holds it.
func TestTakenAgain(t *testing.T) {
	wantSlots(t, spans(0, 9, 1, 2, 3, 4, 5, 6, 7, 8), 2, 0, 1, 1, 1, 1)
	wantSlots(t, spans(0, 2, 1, 9, 2, 7, 3, 4, 5, 6, 6, 8, 7, 9), 3, 0, 1, 0, 2, 2, 2, 0)
	// the first had it for longer than the second, and the other way about
	wantSlots(t, spans(0, 8, 8, 9, 8, 10, 9, 11), 2, 0, 0, 1, 0)
	wantSlots(t, spans(0, 1, 1, 9, 2, 10, 9, 11), 2, 0, 0, 1, 0)
	// one that is held again does not come free when its first range ended
	wantSlots(t, spans(0, 2, 0, 4, 2, 6, 4, 5, 5, 7, 5, 8), 3, 0, 1, 0, 1, 1, 2)
}

// How many slots were used, not how many are held at the end, nor the last one that was given.
func TestHowManySlots(t *testing.T) {
	wantSlots(t, spans(0, 2, 0, 2, 0, 2, 2, 3, 3, 4), 3, 0, 1, 2, 0, 0)
	wantSlots(t, spans(0, 1, 1, 2, 5, 9, 6, 9, 7, 9), 3, 0, 0, 0, 1, 2)
	wantSlots(t, spans(7, 9, 6, 9, 5, 9, 1, 2, 0, 1), 3, 2, 1, 0, 0, 0)
	wantSlots(t, spans(0, 1, 0, 1, 2, 3, 2, 3, 4, 5, 4, 5), 2, 0, 1, 0, 1, 0, 1)
}

// P18.2: the moment of which most are is the first one of a range.
func TestMostAtTheFirstMoment(t *testing.T) {
	wantMost(t, spans(0, 5, 4, 9), 2)
	wantMost(t, spans(0, 5, 3, 5, 4, 9), 3)
	wantMost(t, spans(4, 9, 3, 5, 0, 5), 3)
	wantMost(t, spans(0, 5, 5, 9), 1)
	wantMost(t, spans(0, 5, 3, 5, 5, 9), 2)
	// of one moment
	wantMost(t, spans(0, 9, 2, 3, 1, 3), 3)
	wantMost(t, spans(0, 1, 0, 9), 2)
}

// P18.2: it is the last one of a range.
func TestMostAtTheLastMoment(t *testing.T) {
	wantMost(t, spans(0, 5, 1, 5, 2, 5, 4, 5), 4)
	wantMost(t, spans(0, 5, 1, 5, 2, 5, 5, 6), 3)
	wantMost(t, spans(0, 4, 1, 5, 2, 5, 4, 6), 3)
	wantMost(t, spans(0, 5, 1, 5, 2, 5, 4, 6), 4)
	wantMost(t, spans(0, 8, 7, 8), 2)
	wantMost(t, spans(0, 8, 8, 9), 1)
}

// P18.2: several begin at once, and some end then.
func TestMostWhereSeveralBegin(t *testing.T) {
	wantMost(t, spans(0, 1, 3, 4, 3, 5, 3, 9, 6, 7), 3)
	wantMost(t, spans(3, 4, 3, 4, 3, 4), 3)
	wantMost(t, spans(0, 3, 1, 3, 3, 4, 3, 4, 3, 4), 3)
	wantMost(t, spans(0, 3, 1, 4, 3, 4, 3, 4, 3, 4), 4)
	wantMost(t, spans(0, 4, 1, 4, 3, 4, 3, 4, 3, 4), 5)
}

// P18.2: the moment of the most comes early, late, or twice; and ranges that never meet all at one moment do not add up.
func TestMostAnywhere(t *testing.T) {
	wantMost(t, spans(0, 3, 1, 3, 2, 3, 5, 9, 6, 7), 3)
	wantMost(t, spans(0, 3, 1, 3, 5, 9, 6, 9, 7, 9), 3)
	wantMost(t, spans(0, 2, 1, 2, 3, 4, 4, 6, 5, 6), 2)
	// each meets two others
	wantMost(t, spans(0, 4, 3, 8, 7, 12, 11, 16), 2)
	// one meets all others, which do not meet
	wantMost(t, spans(0, 20, 1, 4, 4, 8, 9, 12, 12, 13), 2)
	// every two of three meet only where all do
	wantMost(t, spans(0, 6, 5, 9, 2, 7), 3)
}
