package gc_test

import (
	"math"
	"slices"
	"testing"

	"halyard/api"
	"halyard/gc"
)

// P8.4: a nil heap is looked at ahead of all else.
func TestNil(t *testing.T) {
	var h *gc.Heap
	for _, n := range []int{0, 1, -1, 20, api.MaxWords, api.MaxWords + 1, math.MinInt, math.MaxInt} {
		wantMake(t, h, n, n, 0, api.ErrArg)
		wantMake(t, h, 0, n, 0, api.ErrArg)
		wantMake(t, h, n, 1, 0, api.ErrArg)
		wantGet(t, h, n, 0, api.ErrArg)
		wantSet(t, h, n, n, api.ErrArg)
		wantBase(t, h, n, 0, 0, 0, api.ErrArg)
		wantCollect(t, h, []int{n}, 0, api.ErrArg)
	}
	wantCollect(t, h, nil, 0, api.ErrArg)
	wantLive(t, h)
}

// R1: a heap that New did not make has no types and no words.
func TestZeroHeap(t *testing.T) {
	var h gc.Heap
	wantMake(t, &h, 0, 1, 0, api.ErrNone)
	wantMake(t, &h, 0, -1, 0, api.ErrNone)
	for _, p := range []int{0, 1, -1, math.MinInt, math.MaxInt} {
		wantNoWord(t, &h, p)
	}
	wantCollect(t, &h, nil, 0, api.OK)
	wantCollect(t, &h, []int{0}, 0, api.OK)
	wantLive(t, &h)
}

// R1: a heap of no types, or of no words.
func TestNothing(t *testing.T) {
	h := made(t, 10)
	wantMake(t, h, 0, 1, 0, api.ErrNone)
	wantNoWord(t, h, 1)
	wantCollect(t, h, nil, 0, api.OK)
	h = made(t, 0, nil, []int{api.Any})
	wantMake(t, h, 0, 0, 0, api.ErrFull)
	wantMake(t, h, 1, 1, 0, api.ErrFull)
	wantNoWord(t, h, 1)
	wantCollect(t, h, []int{0, 0}, 0, api.OK)
	wantLive(t, h)
}

// R1: numbers at their ends, with an object at the first and at the last address.
func TestEnds(t *testing.T) {
	h := made(t, api.MaxWords, make([]int, 2))
	for at := 1; at <= api.MaxWords; at += 2048 {
		wantMake(t, h, 0, 1024, at, api.OK)
	}
	wantBase(t, h, api.MaxWords, api.MaxWords-2047, 0, 1024, api.OK)
	for _, p := range []int{0, -1, api.MaxWords + 1, 1 << 32, 1<<32 + 1, -1 << 32, math.MinInt, math.MinInt + 1, math.MaxInt - 1, math.MaxInt} {
		wantNoWord(t, h, p)
	}
	if got := len(h.Live()); got != 32 {
		t.Errorf("Live: %d objects", got)
	}
}

// R3: a call that answers an error leaves what comes next as it would have been.
func TestErrorsChangeNothing(t *testing.T) {
	types := [][]int{{api.Word, api.Any}, make([]int, 65), {api.Arr}}
	a, b := made(t, 64, types...), made(t, 64, types...)
	wrong := func() {
		t.Helper()
		wantMake(t, a, 3, 1, 0, api.ErrNone)
		wantMake(t, a, 0, -1, 0, api.ErrArg)
		wantMake(t, a, 1, 1024, 0, api.ErrArg)
		wantMake(t, a, 1, 1, 0, api.ErrFull)
		wantSet(t, a, 64, 5, api.ErrNone)
		wantSet(t, a, 2, 64, api.ErrArg)
		wantCollect(t, a, []int{1, 64}, 0, api.ErrArg)
	}
	for i, n := range []int{3, 1, 3, 2, 4, 3, 5} {
		p, e := a.Make(i%2*2, n)
		q, f := b.Make(i%2*2, n)
		if p != q || e != f {
			t.Fatalf("Make(%d, %d): %d, %d; without wrong calls %d, %d", i%2*2, n, p, e, q, f)
		}
		wrong()
		if n == 2 {
			wantCollect(t, a, []int{1, 8}, 2, api.OK)
			wantCollect(t, b, []int{1, 8}, 2, api.OK)
			wrong()
		}
	}
	wantLive(t, a, b.Live()...)
	for p := 0; p <= 65; p++ {
		v, e := b.Get(p)
		wantGet(t, a, p, v, e)
	}
}

// R4: the types are not changed and not kept, nor is their spare room.
func TestTypesAreNotKept(t *testing.T) {
	fields := make([]int, 2, 6)
	fields[1] = api.Arr
	whole := fields[:6]
	copy(whole[2:], []int{71, 72, 73, 74})
	list := make([]api.Layout, 2, 3)
	list[0].Fields = fields
	list[:3][2].Fields = []int{75}
	h, e := gc.New(list, 20)
	if e != api.OK {
		t.Fatal(e)
	}
	wantMake(t, h, 0, 2, 1, api.OK)
	wantSet(t, h, 2, 99, api.ErrArg)
	wantMake(t, h, 2, 1, 0, api.ErrNone)
	wantCollect(t, h, []int{1}, 0, api.OK)
	if !slices.Equal(whole, []int{api.Word, api.Arr, 71, 72, 73, 74}) || len(list) != 2 || list[:3][2].Fields[0] != 75 || list[1].Fields != nil {
		t.Errorf("the types were changed: %v, %v", whole, list[:3])
	}
	clear(whole)
	fields[0] = api.Any
	list[0] = api.Layout{Fields: make([]int, 9)}
	list[1] = api.Layout{Fields: make([]int, 9)}
	wantSet(t, h, 1, 99, api.OK)
	wantSet(t, h, 2, 99, api.ErrArg)
	wantMake(t, h, 0, 2, 5, api.OK)
	wantMake(t, h, 1, 5, 9, api.OK)
	wantMake(t, h, 1, 5, 10, api.OK)
	wantSet(t, h, 4, 8, api.OK)
	wantCollect(t, h, []int{1}, 2, api.OK)
	wantLive(t, h, 1, 5)
}

// R4: two types may share one list of fields.
func TestSharedFields(t *testing.T) {
	fields := []int{api.Word, api.Any, api.Word}
	h := made(t, 20, fields[:2], fields[1:], fields[:0])
	wantMake(t, h, 0, 1, 1, api.OK)
	wantMake(t, h, 1, 1, 3, api.OK)
	wantSet(t, h, 2, 50, api.ErrArg)
	wantSet(t, h, 3, 50, api.ErrArg)
	wantSet(t, h, 1, 50, api.OK)
	wantSet(t, h, 4, 50, api.OK)
	wantMake(t, h, 2, 8, 5, api.OK)
	wantMake(t, h, 2, 8, 6, api.OK)
}

// R4: the roots are not changed and not kept, nor is their spare room.
func TestRootsAreNotChanged(t *testing.T) {
	h := made(t, 40, []int{api.Any, api.Any})
	for at := 1; at <= 19; at += 2 {
		wantMake(t, h, 0, 1, at, api.OK)
	}
	for at := 1; at <= 9; at += 2 {
		wantSet(t, h, at, at+2, api.OK)
		wantSet(t, h, at+1, at+4, api.OK)
	}
	whole := []int{1, 0, 5, 2, 61, 62, 63, 64}
	wantCollect(t, h, whole[:4], 3, api.OK)
	if !slices.Equal(whole, []int{1, 0, 5, 2, 61, 62, 63, 64}) {
		t.Errorf("the roots were changed: %v", whole)
	}
	wantLive(t, h, 1, 3, 5, 7, 9, 11, 13)
	wantCollect(t, h, whole[2:3], 2, api.OK)
	clear(whole)
	wantLive(t, h, 5, 7, 9, 11, 13)
	wantCollect(t, h, nil, 5, api.OK)
}

// R4: Live's list is new memory, spare room included.
func TestLiveIsNew(t *testing.T) {
	h := cells(t, 5)
	wantSet(t, h, 4, 6, api.OK)
	first, second := h.Live(), h.Live()
	for i := range first[:cap(first)] {
		first[:cap(first)][i] = -7
	}
	if !slices.Equal(second, []int{1, 3, 5, 7, 9}) {
		t.Errorf("the second list: %v", second)
	}
	wantLive(t, h, 1, 3, 5, 7, 9)
	wantCollect(t, h, []int{3}, 3, api.OK)
	wantLive(t, h, 3, 5)
	if !slices.Equal(second, []int{1, 3, 5, 7, 9}) {
		t.Errorf("the second list: %v", second)
	}
}

// R5: two heaps have nothing in common, even of the same types.
func TestTwoHeaps(t *testing.T) {
	types := lay([]int{api.Word, api.Any})
	a, _ := gc.New(types, 10)
	b, _ := gc.New(types, 10)
	wantMake(t, a, 0, 2, 1, api.OK)
	wantSet(t, a, 1, 5, api.OK)
	wantLive(t, b)
	wantNoWord(t, b, 1)
	wantMake(t, b, 0, 1, 1, api.OK)
	wantGet(t, b, 1, 0, api.OK)
	wantSet(t, b, 2, 3, api.ErrArg)
	wantCollect(t, b, nil, 1, api.OK)
	wantLive(t, a, 1)
	wantGet(t, a, 1, 5, api.OK)
}
