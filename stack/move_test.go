package stack_test

import (
	"math"
	"testing"

	"halyard/api"
)

// P9.4: the bounds of the base; a wrong one moves nothing.
func TestMoveBounds(t *testing.T) {
	s := frames(t, 100, 10, "pw", "p")
	put(t, s, 100, 102, 101, 101)
	for _, base := range []int{0, -1, greatest + 1, -greatest, math.MinInt, math.MaxInt} {
		wantMove(t, s, base, 0, api.ErrArg)
		wantWords(t, s, 100, 102, 101, 101)
		wantAddr(t, s, 1, 0, 102, api.OK)
	}
	for _, base := range []int{1, 2, greatest - 1, greatest, 100} {
		wantMove(t, s, base, 2, api.OK)
		wantWords(t, s, base, base+2, 101, base+1)
		wantAddr(t, s, 0, 0, base, api.OK)
		wantAddr(t, s, 1, 0, base+2, api.OK)
		wantFrames(t, s, 2, 1)
	}
}

// P9.4: pointers to every word, in every frame, go along; to where none is, they stay.
func TestMovePointers(t *testing.T) {
	for to := 97; to <= 108; to++ {
		for from := 100; from <= 104; from++ {
			s := frames(t, 100, 10, "pp", "", "p", "pp")
			wantSet(t, s, from, to, api.OK)
			if to >= 100 && to <= 104 {
				wantMove(t, s, 500, 1, api.OK)
				wantGet(t, s, from+400, to+400, api.OK)
			} else {
				wantMove(t, s, 500, 0, api.OK)
				wantGet(t, s, from+400, to, api.OK)
			}
		}
	}
}

// P9.4: what is no pointer stays as it is, whatever it holds.
func TestMoveOthers(t *testing.T) {
	s := frames(t, 100, 10, "www", "ww")
	put(t, s, 100, 100, 104, 102, 101, 103)
	wantMove(t, s, 500, 0, api.OK)
	wantWords(t, s, 500, 100, 104, 102, 101, 103)
}

// P9.4: pointers that name no word stay as they are, numbers at their ends too.
func TestMoveNoWord(t *testing.T) {
	s := frames(t, 100, 10, "p")
	for _, v := range []int{0, 1, -1, 99, 101, 109, 110, 1 << 32, 1<<32 + 100, greatest, greatest + 1, math.MinInt, math.MinInt + 1, math.MaxInt - 1, math.MaxInt} {
		wantSet(t, s, 100, v, api.OK)
		wantMove(t, s, 700, 0, api.OK)
		wantWords(t, s, 700, v)
		wantMove(t, s, 100, 0, api.OK)
		wantWords(t, s, 100, v)
	}
}

// P9.4: where the stack stands and where it goes may have words in common; a word that was rewritten is not taken for an old address.
func TestMoveOverlapping(t *testing.T) {
	for base := 94; base <= 106; base++ {
		s := frames(t, 100, 10, "ppw", "pp")
		put(t, s, 100, 104, 103, 101, 100, 101)
		wantMove(t, s, base, 4, api.OK)
		wantWords(t, s, base, base+4, base+3, 101, base, base+1)
	}
}

// P9.4: pointers are counted where the stack stays, too, and those that come to name a word by the move are not.
func TestMoveCounts(t *testing.T) {
	s := frames(t, 100, 10, "ppp", "wp")
	put(t, s, 100, 100, 104, 200, 100, 0)
	wantMove(t, s, 100, 2, api.OK)
	wantWords(t, s, 100, 100, 104, 200, 100, 0)
	wantMove(t, s, 200, 2, api.OK)
	wantWords(t, s, 200, 200, 204, 200, 100, 0)
	wantMove(t, s, 200, 3, api.OK)
	wantMove(t, s, 300, 3, api.OK)
	wantWords(t, s, 300, 300, 304, 300, 100, 0)
}

// P9.4: a stack without frames, or without words, moves too.
func TestMoveNothing(t *testing.T) {
	s := made(t, 100, 10)
	wantMove(t, s, 200, 0, api.OK)
	wantPush(t, s, "", api.OK)
	wantMove(t, s, 300, 0, api.OK)
	wantFrames(t, s, 0)
	wantPush(t, s, "w", api.OK)
	wantAddr(t, s, 1, 0, 300, api.OK)
	wantWords(t, s, 300, 0)
}

// P9.2, P9.4: behind a move, frames come and go where the stack now stands, and pointers keep what they kept.
func TestMoveThenPushAndPop(t *testing.T) {
	s := frames(t, 100, 6, "pw", "w")
	put(t, s, 100, 102, 7, 8)
	wantMove(t, s, 400, 1, api.OK)
	wantPop(t, s, api.ErrArg)
	wantPush(t, s, "ppp", api.OK)
	wantPush(t, s, "p", api.ErrFull)
	wantAddr(t, s, 2, 2, 405, api.OK)
	put(t, s, 403, 400, 405, 102)
	wantMove(t, s, 1, 3, api.OK)
	wantWords(t, s, 1, 3, 7, 8, 1, 6, 102)
	wantPop(t, s, api.OK)
	wantPop(t, s, api.ErrArg)
	wantSet(t, s, 1, 0, api.OK)
	wantPop(t, s, api.OK)
	wantWords(t, s, 1, 0, 7)
}

// P9.4: a pointer at an address that only was the stack's keeps nothing any more.
func TestOldAddresses(t *testing.T) {
	s := frames(t, 100, 10, "p", "w")
	wantMove(t, s, 400, 0, api.OK)
	wantSet(t, s, 400, 101, api.OK)
	wantMove(t, s, 400, 0, api.OK)
	wantPop(t, s, api.OK)
	wantNoWord(t, s, 100)
	wantNoWord(t, s, 101)
}

// P6: many moves there and back change nothing.
func TestMoveThereAndBack(t *testing.T) {
	s := frames(t, 100, 10, "pwp", "pp", "w")
	put(t, s, 100, 105, 102, 100, 104, 6, 101)
	base := 1
	for range 500 {
		base = (base*7919 + 13) % greatest
		wantMove(t, s, base+1, 3, api.OK)
	}
	wantMove(t, s, 100, 3, api.OK)
	wantWords(t, s, 100, 105, 102, 100, 104, 6, 101)
}
