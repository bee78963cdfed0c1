package slots_test

import (
	"slices"
	"testing"

	"halyard/api"
	"halyard/slots"
)

// wrong: the chapter's errors, by its words one by one.
func wrong(list []api.Range) api.Errno {
	if len(list) > 20000 {
		return api.ErrLarge
	}
	bad := false
	for _, r := range list {
		bad = bad || r.From < 0 || !(r.To > r.From)
	}
	if bad {
		return api.ErrForm
	}
	return api.OK
}

// nextTaken: the range that is taken ahead of all others that have no slot (-1) yet.
func nextTaken(list []api.Range, got []int) int {
	next := -1
	for i, r := range list {
		if got[i] < 0 && (next < 0 || r.From < list[next].From) {
			next = i
		}
	}
	return next
}

// secondAssign takes range by range, and tries slot by slot against all that were taken ahead.
func secondAssign(list []api.Range) (got []int, n int) {
	got = slices.Repeat(of(-1), len(list))
	for range list {
		next, slot := nextTaken(list, got), 0
		for held(list, got, slot, list[next].From) {
			slot++
		}
		got[next] = slot
	}
	used := map[int]int{}
	for _, slot := range got {
		used[slot]++
	}
	return got, len(used)
}

// held: has a range this slot whose To is above that From?
func held(list []api.Range, got []int, slot, from int) bool {
	for i, r := range list {
		if got[i] == slot && r.To > from {
			return true
		}
	}
	return false
}

// secondMost asks of each moment beside which a range begins or ends.
func secondMost(list []api.Range) int {
	most := 0
	for _, r := range list {
		for _, at := range of(r.From-1, r.From, r.From+1, r.To-1, r.To) {
			count := 0
			for _, other := range list {
				if other.From <= at && at < other.To {
					count++
				}
			}
			most = max(most, count)
		}
	}
	return most
}

// hold holds both calls against the second ones.
func hold(t *testing.T, list []api.Range) api.Errno {
	t.Helper()
	if e := wrong(list); e != api.OK {
		wantError(t, list, e)
		return e
	}
	want, n := secondAssign(list)
	wantAssign(t, list, n, want...)
	wantMost(t, list, secondMost(list))
	follows(t, list)
	return api.OK
}

// follows: what the chapter says follows from its promises.
func follows(t *testing.T, list []api.Range) {
	t.Helper()
	got, n, _ := slots.Assign(list)
	most, _ := slots.Most(list)
	if n != most || len(got) != len(list) {
		t.Errorf("%v: %d slots, and %d at one moment at most", brief(list), n, most)
	}
	for i, r := range list {
		if got[i] < 0 || got[i] >= n {
			t.Errorf("%v: slot %d of %d", brief(list), got[i], n)
		}
		for k, other := range list[:i] {
			if got[i] == got[k] && r.From < other.To && other.From < r.To {
				t.Errorf("%v: %v and %v have slot %d", brief(list), other, r, got[i])
			}
		}
	}
}

// lists: all lists of so many of the ranges, told one by one.
func lists(count int, from []api.Range, tell func(list []api.Range)) {
	list := make([]api.Range, count)
	var choose func(at int)
	choose = func(at int) {
		if at == count {
			tell(list)
			return
		}
		for _, r := range from {
			list[at] = r
			choose(at + 1)
		}
	}
	choose(0)
}

// within: all ranges with both numbers from the least to the most.
func within(least, most int) []api.Range {
	var list []api.Range
	for from := least; from <= most; from++ {
		for to := least; to <= most; to++ {
			list = append(list, api.Range{From: from, To: to})
		}
	}
	return list
}

func isSound(r api.Range) bool { return wrong([]api.Range{r}) == api.OK }

// soundWithin: those of them that are sound.
func soundWithin(most int) []api.Range {
	return slices.DeleteFunc(within(0, most), func(r api.Range) bool { return !isSound(r) })
}

// All lists of up to three ranges within -1 and 4, of up to four sound ones within 0 and 5, and of five within 0 and 3.
func TestAllSmall(t *testing.T) {
	tell := func(list []api.Range) {
		if !t.Failed() {
			hold(t, list)
		}
	}
	for count := range 4 {
		lists(count, within(-1, 4), tell)
	}
	for count := range 5 {
		lists(count, soundWithin(5), tell)
	}
	lists(5, soundWithin(3), tell)
}

// firstOfFewest: of all ways to give slots to the ranges, so that those of one slot do not overlap, one with the fewest slots; of these the first, by the slots in the order in which ranges are taken.
func firstOfFewest(list []api.Range) []int {
	for most := range len(list) + 1 {
		if got := slices.Repeat(of(-1), len(list)); give(list, got, most) {
			return got
		}
	}
	return nil
}

// give: are there slots below most for all that have none? They are given, the least that will do first.
func give(list []api.Range, got []int, most int) bool {
	next := nextTaken(list, got)
	if next < 0 {
		return true
	}
	for slot := range most {
		if overlaps(list, got, slot, list[next]) {
			continue
		}
		got[next] = slot
		if give(list, got, most) {
			return true
		}
		got[next] = -1
	}
	return false
}

func overlaps(list []api.Range, got []int, slot int, r api.Range) bool {
	for i, other := range list {
		if got[i] == slot && r.From < other.To && other.From < r.To {
			return true
		}
	}
	return false
}

// P10: the slots are the least, and the first of their kind.
func TestFirstOfFewest(t *testing.T) {
	tell := func(list []api.Range) {
		if t.Failed() {
			return
		}
		want := firstOfFewest(list)
		wantSlots(t, list, secondMost(list), want...)
	}
	for count := range 5 {
		lists(count, soundWithin(4), tell)
	}
	lists(6, spans(0, 1, 0, 2, 0, 3, 1, 2, 1, 3, 2, 3), tell)
}
