package arena_test

import (
	"math"
	"testing"

	"halyard/api"
	"halyard/arena"
)

// P7.4: a nil arena is looked at ahead of all else.
func TestNil(t *testing.T) {
	var a *arena.Arena
	for _, n := range []int{0, 1, -1, 20, api.MaxWords, api.MaxWords + 1, math.MinInt, math.MaxInt} {
		wantAlloc(t, a, n, 0, api.ErrArg)
		wantFree(t, a, n, api.ErrArg)
		wantSize(t, a, n, 0, api.ErrArg)
		wantGet(t, a, n, 0, api.ErrArg)
		wantSet(t, a, n, n, api.ErrArg)
		wantFind(t, a, n, 0, api.ErrArg)
	}
	if list := a.Live(); len(list) != 0 {
		t.Errorf("Live: %v", list)
	}
}

// R1: numbers at their ends, with a piece at the first and at the last address.
func TestEnds(t *testing.T) {
	a := made(t, api.MaxWords)
	for at := 1; at <= api.MaxWords; at += 2048 {
		wantAlloc(t, a, 2048, at, api.OK)
	}
	for _, addr := range []int{0, -1, api.MaxWords + 1, 1 << 16 << 16, 1<<32 + 1, -1 << 32, math.MinInt, math.MinInt + 1, math.MaxInt - 1, math.MaxInt} {
		wantFree(t, a, addr, api.ErrNone)
		wantSize(t, a, addr, 0, api.ErrNone)
		wantGet(t, a, addr, 0, api.ErrNone)
		wantSet(t, a, addr, 1, api.ErrNone)
		wantFind(t, a, addr, 0, api.ErrNone)
	}
	if got := len(a.Live()); got != 32 {
		t.Errorf("Live: %d pieces", got)
	}
}

// R1: an arena that New did not make has no words.
func TestZeroArena(t *testing.T) {
	var a arena.Arena
	wantAlloc(t, &a, 1, 0, api.ErrFull)
	wantAlloc(t, &a, 0, 0, api.ErrArg)
	wantFree(t, &a, 1, api.ErrNone)
	wantSize(t, &a, 0, 0, api.ErrNone)
	wantGet(t, &a, 1, 0, api.ErrNone)
	wantSet(t, &a, 1, 1, api.ErrNone)
	wantFind(t, &a, 1, 0, api.ErrNone)
	wantLive(t, &a)
}

// R3: a call that answers an error leaves what comes next as it would have been.
func TestErrorsChangeNothing(t *testing.T) {
	a, b := made(t, 64), made(t, 64)
	wrong := func() {
		wantAlloc(t, a, 0, 0, api.ErrArg)
		wantAlloc(t, a, api.MaxWords+1, 0, api.ErrArg)
		wantAlloc(t, a, 65, 0, api.ErrFull)
		wantFree(t, a, 64, api.ErrNone)
		wantFree(t, a, 2, api.ErrNone)
		wantSet(t, a, 64, 5, api.ErrNone)
		wantSet(t, a, 0, 5, api.ErrNone)
	}
	for _, n := range []int{5, 3, 6, 9, 4, 6, 11} {
		wrong()
		p, e := a.Alloc(n)
		q, f := b.Alloc(n)
		if p != q || e != f {
			t.Fatalf("Alloc(%d): %d, %d; without wrong calls %d, %d", n, p, e, q, f)
		}
		if n == 3 {
			wrong()
			wantFree(t, a, 1, api.OK)
			wantFree(t, b, 1, api.OK)
		}
	}
	wrong()
	wantLive(t, a, b.Live()...)
	for addr := 1; addr <= 64; addr++ {
		v, e := b.Get(addr)
		wantGet(t, a, addr, v, e)
	}
}

// R4: Live's list is new memory, spare room included.
func TestLiveIsNew(t *testing.T) {
	a := made(t, 20)
	for at := 1; at <= 9; at += 4 {
		wantAlloc(t, a, 4, at, api.OK)
	}
	first, second := a.Live(), a.Live()
	for i := range first[:cap(first)] {
		first[:cap(first)][i] = -7
	}
	for i, at := range []int{1, 5, 9} {
		if second[i] != at {
			t.Errorf("the second list: %v", second)
		}
	}
	wantLive(t, a, 1, 5, 9)
	wantFind(t, a, 6, 5, api.OK)
	wantGet(t, a, 6, 0, api.OK)
}

// R5: two arenas have nothing in common.
func TestTwoArenas(t *testing.T) {
	a, b := made(t, 10), made(t, 10)
	wantAlloc(t, a, 4, 1, api.OK)
	wantSet(t, a, 2, 5, api.OK)
	wantLive(t, b)
	wantGet(t, b, 2, 0, api.ErrNone)
	wantFree(t, a, 1, api.OK)
	wantAlloc(t, b, 2, 1, api.OK)
	wantAlloc(t, b, 4, 3, api.OK)
	wantAlloc(t, a, 4, 1, api.OK)
	wantGet(t, b, 2, 0, api.OK)
}
