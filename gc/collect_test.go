package gc_test

import (
	"math"
	"testing"

	"halyard/api"
	"halyard/gc"
)

// cells are objects of one number and one pointer, at 1, 3, 5, ..
func cells(t *testing.T, count int) *gc.Heap {
	t.Helper()
	h := made(t, 2*count, []int{api.Word, api.Ptr})
	for i := range count {
		wantMake(t, h, 0, 1, 1+2*i, api.OK)
	}
	return h
}

// P8.3: without a root everything goes, and a heap without objects has nothing to lose.
func TestCollectAll(t *testing.T) {
	for _, roots := range [][]int{nil, {}, {0}, {0, 0}} {
		h := cells(t, 5)
		wantSet(t, h, 2, 3, api.OK)
		wantSet(t, h, 4, 1, api.OK)
		wantSet(t, h, 6, 6, api.OK)
		wantCollect(t, h, roots, 5, api.OK)
		wantLive(t, h)
		wantCollect(t, h, roots, 0, api.OK)
	}
}

// P8.3: any word of an object keeps it, as a root and as a pointer.
func TestCollectAnyWord(t *testing.T) {
	for p := 5; p <= 11; p++ {
		h := made(t, 30, []int{api.Word, api.Ptr}, make([]int, 7))
		wantMake(t, h, 0, 2, 1, api.OK)
		wantMake(t, h, 1, 1, 5, api.OK)
		wantMake(t, h, 1, 1, 13, api.OK)
		wantSet(t, h, 4, p, api.OK)
		wantCollect(t, h, []int{2}, 1, api.OK)
		wantLive(t, h, 1, 5)
		wantCollect(t, h, []int{p}, 1, api.OK)
		wantLive(t, h, 5)
	}
}

// P8.3: a pointer that names 0 keeps nothing, and a number that happens to be a word keeps nothing either.
func TestCollectPrecise(t *testing.T) {
	h := cells(t, 4)
	wantSet(t, h, 1, 3, api.OK)
	wantSet(t, h, 2, 5, api.OK)
	wantSet(t, h, 5, 7, api.OK)
	wantSet(t, h, 6, 0, api.OK)
	wantCollect(t, h, []int{1}, 2, api.OK)
	wantLive(t, h, 1, 5)
	wantGet(t, h, 1, 3, api.OK)
	wantGet(t, h, 2, 5, api.OK)
	wantGet(t, h, 5, 7, api.OK)
}

// P8.3: the one word of an object without fields keeps nothing.
func TestCollectWithoutFields(t *testing.T) {
	h := made(t, 20, []int{api.Any}, nil)
	wantMake(t, h, 0, 0, 1, api.OK)
	wantMake(t, h, 1, 4, 2, api.OK)
	wantMake(t, h, 0, 1, 3, api.OK)
	wantMake(t, h, 0, 1, 4, api.OK)
	wantSet(t, h, 1, 3, api.OK)
	wantSet(t, h, 2, 4, api.OK)
	wantCollect(t, h, []int{1, 2}, 2, api.OK)
	wantLive(t, h, 1, 2)
}

// P8.3: every kind of pointer field keeps what it names, in every element.
func TestCollectKinds(t *testing.T) {
	fields := []int{api.Word, api.Any, api.Ptr, api.Arr, api.Ptr + 2, api.Arr + 2}
	for i := range 3 * len(fields) {
		h := made(t, 40, fields, []int{api.Word})
		wantMake(t, h, 0, 3, 1, api.OK)
		wantMake(t, h, 1, 1, 25, api.OK)
		wantSet(t, h, 1+i, 25, api.OK)
		if fields[i%len(fields)] == api.Word {
			wantCollect(t, h, []int{1}, 1, api.OK)
			wantLive(t, h, 1)
		} else {
			wantCollect(t, h, []int{1}, 0, api.OK)
			wantLive(t, h, 1, 25)
		}
	}
}

// P8.3: only the pointers of what stays keep anything.
func TestCollectOfGone(t *testing.T) {
	h := cells(t, 5)
	wantSet(t, h, 2, 3, api.OK)
	wantSet(t, h, 4, 1, api.OK)
	wantSet(t, h, 6, 5, api.OK)
	wantSet(t, h, 8, 9, api.OK)
	wantCollect(t, h, []int{9}, 4, api.OK)
	wantLive(t, h, 9)
}

// P8.3: rings stay whole, and go whole.
func TestCollectRings(t *testing.T) {
	h := cells(t, 6)
	for _, pair := range [][2]int{{1, 3}, {3, 5}, {5, 1}, {7, 9}, {9, 11}, {11, 7}} {
		wantSet(t, h, pair[0]+1, pair[1], api.OK)
	}
	wantCollect(t, h, []int{6}, 3, api.OK)
	wantLive(t, h, 1, 3, 5)
	wantCollect(t, h, []int{3, 3, 0, 4, 1}, 0, api.OK)
	wantSet(t, h, 4, 0, api.OK)
	wantCollect(t, h, []int{3}, 2, api.OK)
	wantLive(t, h, 3)
}

// P8.3: a chain as long as the heap, from either end.
func TestCollectChain(t *testing.T) {
	const count = api.MaxWords / 2
	h := cells(t, count)
	for i := 1; i < count; i++ {
		wantSet(t, h, 2*i, 1+2*i, api.OK)
	}
	wantCollect(t, h, []int{1}, 0, api.OK)
	wantCollect(t, h, []int{count + 1}, count/2, api.OK)
	if live := h.Live(); len(live) != count/2 || live[0] != count+1 {
		t.Errorf("Live: %d objects", len(live))
	}
	wantCollect(t, h, []int{2*count - 1}, count/2-1, api.OK)
	wantLive(t, h, 2*count-1)
}

// P8.3: one object that names all others, and others that all name one.
func TestCollectWide(t *testing.T) {
	h := made(t, 3*api.MaxLen, []int{api.Arr})
	wantMake(t, h, 0, api.MaxLen, 1, api.OK)
	for i := 1; i <= api.MaxLen; i++ {
		wantMake(t, h, 0, 1, api.MaxLen+i, api.OK)
		wantSet(t, h, i, api.MaxLen+i, api.OK)
		wantSet(t, h, api.MaxLen+i, 1, api.OK)
	}
	wantCollect(t, h, []int{api.MaxLen + 7}, 0, api.OK)
	wantSet(t, h, 9, 0, api.OK)
	wantCollect(t, h, []int{api.MaxLen + 7}, 1, api.OK)
	wantSet(t, h, api.MaxLen+7, 0, api.OK)
	wantCollect(t, h, []int{api.MaxLen + 7}, api.MaxLen-1, api.OK)
	wantLive(t, h, api.MaxLen+7)
}

// P8.3: what goes is gone for all calls, what stays is as it was.
func TestCollectGone(t *testing.T) {
	h := cells(t, 4)
	for p := 1; p <= 7; p += 2 {
		wantSet(t, h, p, 10*p, api.OK)
		wantSet(t, h, p+1, p, api.OK)
	}
	wantCollect(t, h, []int{3, 8}, 2, api.OK)
	for p := 1; p <= 8; p++ {
		switch p {
		case 1, 2, 5, 6:
			wantNoWord(t, h, p)
			wantSet(t, h, 4, p, api.ErrArg)
		case 3, 7:
			wantGet(t, h, p, 10*p, api.OK)
		case 4, 8:
			wantGet(t, h, p, p-1, api.OK)
		}
	}
}

// P8.3: they go back from the least address on, so that the arena gives the greatest of a class first, and ahead of it none that went back earlier.
func TestCollectOrder(t *testing.T) {
	h := made(t, 30, []int{api.Word, api.Ptr}, []int{api.Word})
	for _, one := range [][3]int{{0, 1, 1}, {1, 1, 3}, {0, 1, 4}, {1, 1, 6}, {0, 1, 7}, {0, 1, 9}, {0, 1, 11}} {
		wantMake(t, h, one[0], one[1], one[2], api.OK)
	}
	wantCollect(t, h, []int{1, 4, 6, 7, 9}, 2, api.OK)
	wantCollect(t, h, []int{4, 9}, 3, api.OK)
	wantLive(t, h, 4, 9)
	for _, at := range []int{7, 1, 11, 13} {
		wantMake(t, h, 0, 1, at, api.OK)
	}
	for _, at := range []int{6, 3, 15} {
		wantMake(t, h, 1, 1, at, api.OK)
	}
	wantLive(t, h, 1, 3, 4, 6, 7, 9, 11, 13, 15)
}

// P8.3: of many objects too, for which a map's own order would not be the addresses'.
func TestCollectOrderOfMany(t *testing.T) {
	const count = 500
	h := cells(t, count)
	var roots []int
	for i := 0; i < count; i += 3 {
		roots = append(roots, 1+2*i)
	}
	wantCollect(t, h, roots, count-len(roots), api.OK)
	for i := count - 1; i >= 0; i-- {
		if i%3 != 0 {
			wantMake(t, h, 0, 1, 1+2*i, api.OK)
		}
	}
	wantMake(t, h, 0, 1, 0, api.ErrFull)
}

// P8.3: a root that names nothing is an error wherever it stands, and nothing goes.
func TestCollectWrong(t *testing.T) {
	h := made(t, 20, []int{api.Word, api.Any, api.Word, api.Word, api.Word})
	wantMake(t, h, 0, 1, 1, api.OK)
	wantMake(t, h, 0, 1, 7, api.OK)
	wantMake(t, h, 0, 1, 13, api.OK)
	wantSet(t, h, 2, 8, api.OK)
	wantCollect(t, h, []int{1}, 1, api.OK)
	for _, p := range []int{-1, 6, 12, 13, 17, 18, 19, 20, 21, 1 << 32, 1<<32 + 1, math.MinInt, math.MaxInt} {
		for _, roots := range [][]int{{p}, {p, 1}, {1, p}, {0, p}, {1, 7, p, 0}} {
			wantCollect(t, h, roots, 0, api.ErrArg)
			wantLive(t, h, 1, 7)
			wantGet(t, h, 2, 8, api.OK)
		}
	}
	wantCollect(t, h, []int{0, 5, 0}, 0, api.OK)
}

// P8.3: Live rises, whatever the order in which objects went and came again.
func TestLiveRises(t *testing.T) {
	h := cells(t, 9)
	wantLive(t, h, 1, 3, 5, 7, 9, 11, 13, 15, 17)
	wantCollect(t, h, []int{17, 9, 3}, 6, api.OK)
	wantLive(t, h, 3, 9, 17)
	for _, at := range []int{15, 13, 11, 7} {
		wantMake(t, h, 0, 1, at, api.OK)
	}
	wantLive(t, h, 3, 7, 9, 11, 13, 15, 17)
}

// P6: memory that nothing comes to any more is there again, as often as it is asked for.
func TestRoomAgain(t *testing.T) {
	h := made(t, 16, []int{api.Word, api.Ptr})
	kept := 0
	for i := range 1000 {
		p, e := h.Make(0, 1)
		if e == api.ErrFull {
			wantCollect(t, h, []int{kept}, 7, api.OK)
			p, e = h.Make(0, 1)
		}
		if e != api.OK {
			t.Fatalf("Make number %d: %d", i, e)
		}
		wantSet(t, h, p, i, api.OK)
		if i%7 == 0 {
			kept = p
		}
	}
}
