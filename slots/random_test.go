package slots_test

import (
	"math"
	"math/rand"
	"slices"
	"testing"

	"halyard/api"
	"halyard/slots"
)

// random: up to forty sound ranges. Of pick(n) come numbers from 0 to n - 1.
func random(pick func(n int) int) []api.Range {
	var list []api.Range
	moments, longest := 1+pick(60), 1+pick(20)
	step := of(1, 1, 2, 1<<32)[pick(4)]
	for range pick(41) {
		from := pick(moments)
		list = append(list, api.Range{From: step * from, To: step * (from + 1 + pick(longest))})
	}
	return list
}

// numbers are such as a From or a To may be made.
func numbers() []int {
	return of(-1, 0, 1, 2, 3, 5, 8, 13, 21, 34, 55, 63, 64, 1<<32, math.MaxInt-1, math.MaxInt, math.MinInt)
}

// spoil makes other ranges of them, which may be sound or not.
func spoil(pick func(n int) int, list []api.Range) []api.Range {
	list = slices.Clone(list)
	n := numbers()[pick(len(numbers()))]
	if len(list) == 0 {
		return append(list, api.Range{From: n, To: n + 1})
	}
	at, other := pick(len(list)), pick(len(list))
	switch pick(8) {
	case 0:
		list[at].From = n
	case 1:
		list[at].To = n
	case 2:
		list[at].From = list[other].To
	case 3:
		list[at].To = list[other].From
	case 4:
		list[at], list[other] = list[other], list[at]
	case 5:
		list = append(list, list[at])
	case 6:
		list = slices.Delete(list, at, at+1)
	case 7:
		if pick(8) == 0 {
			list = append(list, make([]api.Range, api.MaxTokens)...)
		}
	}
	return list
}

// seen counts what random ones had.
type seen struct{ fine, form, large, again, fresh, meet, oneFrom, several int }

func (n *seen) count(list []api.Range, e api.Errno) {
	switch e {
	case api.ErrForm:
		n.form++
		return
	case api.ErrLarge:
		n.large++
		return
	}
	n.fine++
	_, used, _ := slots.Assign(list)
	n.fresh += used
	n.again += len(list) - used
	if used > 3 {
		n.several++
	}
	for i, r := range list {
		for _, other := range list[:i] {
			if r.From == other.To || r.To == other.From {
				n.meet++
			}
			if r.From == other.From {
				n.oneFrom++
			}
		}
	}
}

// Random ranges, and such as were changed, against the second ways.
func TestRandom(t *testing.T) {
	pick := rand.New(rand.NewSource(18)).Intn
	var n seen
	for range 3000 {
		list := random(pick)
		e := hold(t, list)
		if e != api.OK {
			t.Fatalf("not sound: %v, %d", list, e)
		}
		n.count(list, e)
		for k := 0; k < 4 && len(list) <= api.MaxTokens; k++ {
			list = spoil(pick, list)
			n.count(list, hold(t, list))
		}
		if t.Failed() {
			return
		}
	}
	for _, count := range []int{n.fine, n.form, n.large, n.again, n.fresh, n.meet, n.oneFrom, n.several} {
		if count < 100 {
			t.Errorf("too little of something: %+v", n)
		}
	}
}

// The order of the list is nothing to the slots of ranges whose From are all different.
func TestAnyOrder(t *testing.T) {
	r := rand.New(rand.NewSource(19))
	for range 300 {
		count := 1 + r.Intn(60)
		var list []api.Range
		for from := range count {
			list = append(list, api.Range{From: from, To: from + 1 + r.Intn(20)})
		}
		want, n, e := slots.Assign(list)
		if e != api.OK {
			t.Fatalf("%v: %d", list, e)
		}
		order := r.Perm(count)
		other, moved := make([]api.Range, count), make([]int, count)
		for at, i := range order {
			other[at], moved[at] = list[i], want[i]
		}
		wantSlots(t, other, n, moved...)
	}
}

// byMoments: the slots of ranges within so many moments, told moment by moment from who holds what: this is for many ranges.
func byMoments(list []api.Range, moments int) (got []int, n int) {
	got = make([]int, len(list))
	begin := make([][]int, moments)
	for i, r := range list {
		begin[r.From] = append(begin[r.From], i)
	}
	var until []int
	for at, some := range begin {
		slot := 0
		for _, i := range some {
			for slot < len(until) && until[slot] > at {
				slot++
			}
			if slot == len(until) {
				until = append(until, 0)
			}
			got[i], until[slot] = slot, list[i].To
		}
	}
	return got, len(until)
}

// Up to MaxTokens ranges: few moments and many, short and long.
func TestManyRandom(t *testing.T) {
	r := rand.New(rand.NewSource(20))
	for _, count := range of(1000, 5000, api.MaxTokens-1, api.MaxTokens) {
		for _, moments := range of(1, 10, 1000, 30000) {
			for _, longest := range of(1, 7, 100, 40000) {
				var list []api.Range
				for range count {
					from := r.Intn(moments)
					list = append(list, api.Range{From: from, To: from + 1 + r.Intn(longest)})
				}
				want, n := byMoments(list, moments)
				wantSlots(t, list, n, want...)
			}
		}
	}
}

func FuzzRanges(f *testing.F) {
	for i := range 20 {
		b := make([]byte, 40+10*i)
		rand.New(rand.NewSource(int64(i))).Read(b)
		f.Add(b)
	}
	f.Fuzz(func(t *testing.T, b []byte) {
		pick := func(n int) int {
			if len(b) == 0 {
				return 0
			}
			first := int(b[0])
			b = b[1:]
			return first % n
		}
		list := random(pick)
		for hold(t, list); len(b) > 0 && len(list) < 100; hold(t, list) {
			list = spoil(pick, list)
		}
	})
}
