package slots_test

import (
	"math"
	"slices"
	"testing"

	"halyard/api"
)

// put: what is done with sound ranges of which one is another one, in the first, middle and last place.
func put(r api.Range, do func(list []api.Range)) {
	for at := range 3 {
		list := spans(0, 5, 2, 9, 5, 6)
		list[at] = r
		do(list)
	}
}

// unsound: ranges with From below 0, or To not above From.
func unsound() []api.Range {
	list := spans(0, 0, -1, 0, -1, 2, -1, -1, -1, -2, 2, 1, 2, 2, 2, 0, 2, -1, 0, -1)
	for _, n := range of(1, 3, api.MaxTokens, 1<<31, 1<<32, 1<<62, math.MaxInt-1, math.MaxInt) {
		list = append(list, spans(n, n, n, n-1, n, 0, n, -n, -n, n, -n, -n, -n, 1-n, -n, -n-1, -n, 0, n, math.MinInt, math.MinInt, n)...)
	}
	return append(list, spans(math.MinInt, math.MinInt, math.MinInt, math.MinInt+1, math.MinInt, 0, math.MinInt, -1, -1, math.MinInt)...)
}

// From is 0 or more, and To above it: each one alone, beside sound ones, and beside others that are not.
func TestUnsound(t *testing.T) {
	for _, r := range unsound() {
		wantError(t, []api.Range{r}, api.ErrForm)
		put(r, func(list []api.Range) { wantError(t, list, api.ErrForm) })
		for _, other := range unsound() {
			wantError(t, []api.Range{r, other}, api.ErrForm)
		}
	}
	wantError(t, unsound(), api.ErrForm)
	wantError(t, make([]api.Range, 3), api.ErrForm)
}

// From of 0 will do, and of -1 not, with a To far above it.
func TestFrom(t *testing.T) {
	for _, to := range of(1, 2, 100, math.MaxInt) {
		wantSlots(t, spans(0, to), 1, 0)
		for _, from := range of(-1, -2, -100, -to, math.MinInt) {
			wantError(t, spans(from, to), api.ErrForm)
		}
	}
}

// To of one above From will do, of From and of one below it not.
func TestTo(t *testing.T) {
	for _, from := range of(0, 1, 2, 63, 64, api.MaxTokens, 1<<31-1, 1<<31, 1<<32, math.MaxInt-1) {
		wantSlots(t, spans(from, from+1), 1, 0)
		wantError(t, spans(from, from), api.ErrForm)
		wantError(t, spans(from, from-1), api.ErrForm)
		put(api.Range{From: from, To: from}, func(list []api.Range) { wantError(t, list, api.ErrForm) })
		put(api.Range{From: from, To: from - 1}, func(list []api.Range) { wantError(t, list, api.ErrForm) })
	}
	// no To is above it
	for _, to := range of(math.MaxInt, math.MaxInt-1, 0, -1, math.MinInt) {
		wantError(t, spans(math.MaxInt, to), api.ErrForm)
	}
}

// Numbers at their ends, in ranges that are sound.
func TestFarRanges(t *testing.T) {
	const end = math.MaxInt
	wantSlots(t, spans(0, end, end-1, end), 2, 0, 1)
	wantSlots(t, spans(end-1, end, 0, end), 2, 1, 0)
	wantSlots(t, spans(0, end-1, end-1, end), 1, 0, 0)
	wantSlots(t, spans(end-1, end, 0, end-1), 1, 0, 0)
	wantSlots(t, spans(0, end, 0, end, 0, 1, 1, end), 3, 0, 1, 2, 2)
	wantSlots(t, spans(end-3, end-1, end-2, end, end-1, end), 2, 0, 1, 0)
	wantSlots(t, spans(1<<62, end, 1<<62-1, 1<<62, 1<<32, 1<<62+1, 0, 1<<32, 5, 6), 2, 1, 1, 0, 0, 1)
}

// MaxTokens ranges and no more, whatever they are.
func TestMostRanges(t *testing.T) {
	alike := slices.Repeat(spans(0, 1), api.MaxTokens+2)
	var rising, zeros []int
	for i := range api.MaxTokens {
		rising, zeros = append(rising, i), append(zeros, 0)
	}
	const most = api.MaxTokens
	wantSlots(t, alike[:most-1], most-1, rising[:most-1]...)
	wantSlots(t, alike[:most], most, rising...)
	wantError(t, alike[:most+1], api.ErrLarge)
	wantError(t, alike[:most+2], api.ErrLarge)
	var row []api.Range
	for i := range most + 1 {
		row = append(row, api.Range{From: most - i, To: most - i + 1})
	}
	wantSlots(t, row[:most], 1, zeros...)
	wantError(t, row, api.ErrLarge)
	wantError(t, make([]api.Range, most), api.ErrForm)
	wantError(t, slices.Repeat(spans(3, 4), 1000000), api.ErrLarge)
}

// R2: ErrLarge stands ahead of ErrForm, and ErrForm is told of the last of MaxTokens ranges too.
func TestWhichError(t *testing.T) {
	sound := slices.Repeat(spans(1, 2), api.MaxTokens)
	for i, r := range unsound() {
		for _, at := range of(0, i, api.MaxTokens/2, api.MaxTokens-1) {
			list := slices.Clone(sound)
			list[at] = r
			wantError(t, list, api.ErrForm)
			wantError(t, append(list, api.Range{From: 1, To: 2}), api.ErrLarge)
			wantError(t, append(sound, r), api.ErrLarge)
		}
		if t.Failed() {
			return
		}
	}
	wantError(t, make([]api.Range, api.MaxTokens+1), api.ErrLarge)
	wantError(t, make([]api.Range, 100000), api.ErrLarge)
}
