package stack_test

import (
	"math"
	"slices"
	"testing"

	"halyard/api"
	"halyard/stack"
)

// P9.5: a nil stack is looked at ahead of all else.
func TestNil(t *testing.T) {
	var s *stack.Stack
	for _, letters := range []string{"", "w", "p", string(make([]byte, api.MaxWords+1))} {
		wantPush(t, s, letters, api.ErrArg)
	}
	if e := s.Push(nil); e != api.ErrArg {
		t.Errorf("Push(nil): %d", e)
	}
	wantPop(t, s, api.ErrArg)
	wantFrames(t, s)
	for _, n := range []int{0, 1, -1, 100, greatest, greatest + 1, math.MinInt, math.MaxInt} {
		wantAddr(t, s, n, 0, 0, api.ErrArg)
		wantAddr(t, s, 0, n, 0, api.ErrArg)
		wantGet(t, s, n, 0, api.ErrArg)
		wantSet(t, s, n, n, api.ErrArg)
		wantMove(t, s, n, 0, api.ErrArg)
	}
}

// R1: a stack that New did not make may have no words.
func TestZeroStack(t *testing.T) {
	var s stack.Stack
	wantPop(t, &s, api.ErrNone)
	wantPush(t, &s, "w", api.ErrFull)
	wantPush(t, &s, "", api.OK)
	wantFrames(t, &s, 0)
	wantAddr(t, &s, 0, 0, 0, api.ErrNone)
	for _, addr := range []int{0, 1, -1, math.MinInt, math.MaxInt} {
		wantNoWord(t, &s, addr)
	}
	wantMove(t, &s, 0, 0, api.ErrArg)
	wantMove(t, &s, 1, 0, api.OK)
	wantPop(t, &s, api.OK)
	wantFrames(t, &s)
}

// R1: a nil list makes a frame without words, as an empty one does.
func TestPushNil(t *testing.T) {
	s := made(t, 10, 3)
	for _, ptrs := range [][]bool{nil, {}, {true}, nil} {
		if e := s.Push(ptrs); e != api.OK {
			t.Fatalf("Push(%v): %d", ptrs, e)
		}
	}
	wantFrames(t, s, 0, 0, 1, 0)
	wantAddr(t, s, 2, 0, 10, api.OK)
}

// R3: a call that answers an error leaves what comes next as it would have been.
func TestErrorsChangeNothing(t *testing.T) {
	s := made(t, 100, 8)
	wrong := func() {
		t.Helper()
		wantPush(t, s, "ppppppppp", api.ErrFull)
		wantMove(t, s, 0, 0, api.ErrArg)
		wantMove(t, s, greatest+1, 0, api.ErrArg)
		wantSet(t, s, 99, 5, api.ErrNone)
		wantSet(t, s, 108, 5, api.ErrNone)
		wantAddr(t, s, 9, 0, 0, api.ErrNone)
	}
	wrong()
	wantPop(t, s, api.ErrNone)
	wantPush(t, s, "pw", api.OK)
	wrong()
	wantPush(t, s, "wp", api.OK)
	put(t, s, 100, 103, 6, 7, 102)
	wrong()
	wantPop(t, s, api.ErrArg)
	wantPush(t, s, "wwwww", api.ErrFull)
	wantFrames(t, s, 2, 2)
	wantWords(t, s, 100, 103, 6, 7, 102)
	wantPush(t, s, "wwww", api.OK)
	wrong()
	wantPush(t, s, "w", api.ErrFull)
	wantFrames(t, s, 2, 2, 4)
	wantMove(t, s, 100, 2, api.OK)
	wantWords(t, s, 100, 103, 6, 7, 102, 0, 0, 0, 0)
}

// R4: what is handed in is not changed and not kept, nor is its spare room.
func TestPtrsAreNotKept(t *testing.T) {
	whole := []bool{true, false, true, false, true, true}
	s := made(t, 10, 20)
	for _, part := range [][]bool{whole[:2], whole[2:3], whole[1:4]} {
		if e := s.Push(part); e != api.OK {
			t.Fatal(e)
		}
	}
	put(t, s, 10, 10, 10, 10, 10, 10, 10)
	if !slices.Equal(whole, []bool{true, false, true, false, true, true}) {
		t.Errorf("the list was changed: %v", whole)
	}
	for i := range whole {
		whole[i] = !whole[i]
	}
	wantMove(t, s, 30, 3, api.OK)
	wantWords(t, s, 30, 30, 10, 30, 10, 30, 10)
	if !slices.Equal(whole, []bool{false, true, false, true, false, false}) {
		t.Errorf("the list was changed: %v", whole)
	}
}

// R4: Frames' list is new memory, spare room included.
func TestFramesAreNew(t *testing.T) {
	s := frames(t, 10, 20, "w", "pp", "", "www", "w")
	first, second := s.Frames(), s.Frames()
	for i := range first[:cap(first)] {
		first[:cap(first)][i] = -7
	}
	if !slices.Equal(second, []int{1, 2, 0, 3, 1}) {
		t.Errorf("the second list: %v", second)
	}
	wantFrames(t, s, 1, 2, 0, 3, 1)
	wantAddr(t, s, 3, 2, 15, api.OK)
	wantPop(t, s, api.OK)
	wantPush(t, s, "www", api.OK)
	if !slices.Equal(second, []int{1, 2, 0, 3, 1}) {
		t.Errorf("the second list: %v", second)
	}
	wantFrames(t, s, 1, 2, 0, 3, 3)
}

// R5: two stacks have nothing in common, even at one base.
func TestTwoStacks(t *testing.T) {
	a, b := made(t, 10, 5), made(t, 10, 5)
	wantPush(t, a, "pp", api.OK)
	wantFrames(t, b)
	wantNoWord(t, b, 10)
	wantPush(t, b, "w", api.OK)
	put(t, a, 10, 11, 10)
	wantWords(t, b, 10, 0)
	wantMove(t, a, 60, 2, api.OK)
	wantMove(t, b, 20, 0, api.OK)
	wantWords(t, a, 60, 61, 60)
	wantPop(t, b, api.OK)
	wantFrames(t, a, 2)
}
