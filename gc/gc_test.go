package gc_test

import (
	"math"
	"slices"
	"testing"

	"halyard/api"
	"halyard/arena"
	"halyard/gc"
)

// lay is a list of types, each by its fields' kinds.
func lay(types ...[]int) []api.Layout {
	list := make([]api.Layout, len(types))
	for i, fields := range types {
		list[i].Fields = fields
	}
	return list
}

// made is a heap of so many words for these types; the test ends if there is none.
func made(t *testing.T, words int, types ...[]int) *gc.Heap {
	t.Helper()
	h, e := gc.New(lay(types...), words)
	if h == nil || e != api.OK {
		t.Fatalf("New of %d words: %v, %d", words, h, e)
	}
	return h
}

func wantMake(t *testing.T, h *gc.Heap, ty, n, want int, err api.Errno) {
	t.Helper()
	if p, e := h.Make(ty, n); p != want || e != err {
		t.Fatalf("Make(%d, %d): %d, %d; want %d, %d", ty, n, p, e, want, err)
	}
}

func wantGet(t *testing.T, h *gc.Heap, p, want int, err api.Errno) {
	t.Helper()
	if v, e := h.Get(p); v != want || e != err {
		t.Fatalf("Get(%d): %d, %d; want %d, %d", p, v, e, want, err)
	}
}

func wantSet(t *testing.T, h *gc.Heap, p, v int, err api.Errno) {
	t.Helper()
	if e := h.Set(p, v); e != err {
		t.Fatalf("Set(%d, %d): %d; want %d", p, v, e, err)
	}
}

func wantBase(t *testing.T, h *gc.Heap, p, obj, ty, n int, err api.Errno) {
	t.Helper()
	if o, k, m, e := h.Base(p); o != obj || k != ty || m != n || e != err {
		t.Fatalf("Base(%d): %d, %d, %d, %d; want %d, %d, %d, %d", p, o, k, m, e, obj, ty, n, err)
	}
}

func wantCollect(t *testing.T, h *gc.Heap, roots []int, want int, err api.Errno) {
	t.Helper()
	if n, e := h.Collect(roots); n != want || e != err {
		t.Fatalf("Collect(%v): %d, %d; want %d, %d", roots, n, e, want, err)
	}
}

func wantLive(t *testing.T, h *gc.Heap, want ...int) {
	t.Helper()
	if got := h.Live(); !slices.Equal(got, want) {
		t.Fatalf("Live: %v; want %v", got, want)
	}
}

// wantNoWord: p is no word of an object, for any call.
func wantNoWord(t *testing.T, h *gc.Heap, p int) {
	t.Helper()
	wantBase(t, h, p, 0, 0, 0, api.ErrNone)
	wantGet(t, h, p, 0, api.ErrNone)
	wantSet(t, h, p, 0, api.ErrNone)
	if p != 0 {
		wantCollect(t, h, []int{p}, 0, api.ErrArg)
	}
}

// The chapter's example, step by step.
func TestExample(t *testing.T) {
	h := made(t, 100, []int{api.Word, api.Ptr})
	wantMake(t, h, 0, 3, 1, api.OK)
	wantBase(t, h, 6, 1, 0, 3, api.OK)
	wantBase(t, h, 7, 0, 0, 0, api.ErrNone)
	wantSet(t, h, 2, 5, api.OK)
	wantSet(t, h, 2, 9, api.ErrArg)
	wantBase(t, h, 5, 1, 0, 3, api.OK)
	wantMake(t, h, 0, 1, 7, api.OK)
	wantCollect(t, h, []int{4}, 1, api.OK)
	wantLive(t, h, 1)
}

// P8.1: the bounds of words.
func TestNewWords(t *testing.T) {
	for _, words := range []int{-1, api.MaxWords + 1, math.MinInt, math.MaxInt} {
		if h, e := gc.New(lay([]int{api.Word}), words); h != nil || e != api.ErrArg {
			t.Errorf("New of %d words: %v, %d", words, h, e)
		}
	}
	for _, words := range []int{0, 1, api.MaxWords - 1, api.MaxWords} {
		h := made(t, words, []int{api.Word})
		wantLive(t, h)
		for i := range min(words, 3) {
			wantMake(t, h, 0, 1, i+1, api.OK)
		}
	}
	wantMake(t, made(t, 0, []int{api.Word}), 0, 1, 0, api.ErrFull)
}

// P8.1: how many types there may be.
func TestNewTypes(t *testing.T) {
	for _, count := range []int{0, 1, api.MaxTypes, api.MaxTypes + 1} {
		h, e := gc.New(make([]api.Layout, count), 10)
		if h == nil || e != api.OK {
			t.Fatalf("%d types: %v, %d", count, h, e)
		}
		wantMake(t, h, count, 1, 0, api.ErrNone)
		if count > 0 {
			wantMake(t, h, count-1, 1, 1, api.OK)
		}
	}
	for _, count := range []int{api.MaxTypes + 2, 2 * api.MaxTypes, 1 << 17} {
		if h, e := gc.New(make([]api.Layout, count), 10); h != nil || e != api.ErrArg {
			t.Errorf("%d types: %v, %d", count, h, e)
		}
	}
}

// P8.1: how many fields a type may have, wherever it stands in the list.
func TestNewFields(t *testing.T) {
	most, more := make([]int, api.MaxLocals), make([]int, api.MaxLocals+1)
	h := made(t, api.MaxWords, most, nil, most)
	wantMake(t, h, 2, 1, 1, api.OK)
	wantBase(t, h, api.MaxLocals, 1, 2, 1, api.OK)
	for _, list := range [][]api.Layout{lay(more), lay(most, more), lay(more, nil), lay(nil, more, most)} {
		if h, e := gc.New(list, 10); h != nil || e != api.ErrArg {
			t.Errorf("too many fields: %v, %d", h, e)
		}
	}
}

// P8.1: the kinds of fields hang on how many types there are, not on where the field's type stands.
func TestNewKinds(t *testing.T) {
	for count := 1; count <= api.MaxTypes+1; count += 1 + count/3*5 {
		for at := range count {
			if at > 3 && at < count-3 {
				continue
			}
			for kind := -3; kind <= 2*count+5; kind++ {
				wantKind(t, count, at, kind, kind >= 0 && kind <= 2*count+1)
			}
			for _, kind := range []int{api.Local, api.Local + api.Ptr, math.MinInt, math.MaxInt, -2, 1 << 32, 1<<32 + 2} {
				wantKind(t, count, at, kind, false)
			}
		}
	}
}

func wantKind(t *testing.T, count, at, kind int, ok bool) {
	t.Helper()
	list := make([]api.Layout, count)
	list[at].Fields = []int{api.Word, api.Any, kind}
	if h, e := gc.New(list, 10); (h != nil) != ok || (e == api.OK) != ok || !ok && e != api.ErrArg {
		t.Fatalf("kind %d of type %d of %d: %v, %d", kind, at, count, h, e)
	}
}

// P8.2: which types there are; that is looked at ahead of n.
func TestMakeNone(t *testing.T) {
	h := made(t, 10, []int{api.Word}, nil)
	for _, ty := range []int{-1, 2, 3, api.MaxTypes, math.MinInt, math.MaxInt} {
		for _, n := range []int{0, 1, -1, api.MaxLen + 1, math.MinInt, math.MaxInt} {
			wantMake(t, h, ty, n, 0, api.ErrNone)
		}
	}
	wantLive(t, h)
}

// P8.2: n's bounds are looked at ahead of the room.
func TestMakeLength(t *testing.T) {
	for _, words := range []int{0, 10, api.MaxWords} {
		h := made(t, words, []int{api.Word}, nil)
		for _, n := range []int{-1, api.MaxLen + 1, 1 << 32, -1 << 32, math.MinInt, math.MaxInt} {
			wantMake(t, h, 0, n, 0, api.ErrArg)
			wantMake(t, h, 1, n, 0, api.ErrArg)
		}
		wantLive(t, h)
	}
	h := made(t, 2*api.MaxLen, []int{api.Word})
	wantMake(t, h, 0, api.MaxLen, 1, api.OK)
	wantBase(t, h, api.MaxLen, 1, 0, api.MaxLen, api.OK)
	wantMake(t, h, 0, api.MaxLen, 1+api.MaxLen, api.OK)
	wantMake(t, h, 0, 1, 0, api.ErrFull)
}

// P8.2: more than MaxWords words are ErrArg, whatever room there is; as many are ErrFull where there is none.
func TestMakeWords(t *testing.T) {
	types := [][]int{make([]int, 64), make([]int, 65), make([]int, api.MaxLocals)}
	for _, words := range []int{0, 100, api.MaxWords - 1, api.MaxWords} {
		h := made(t, words, types...)
		wantMake(t, h, 1, api.MaxLen, 0, api.ErrArg)
		wantMake(t, h, 1, 1009, 0, api.ErrArg)
		wantMake(t, h, 2, 17, 0, api.ErrArg)
		wantMake(t, h, 2, api.MaxLen, 0, api.ErrArg)
		if words < api.MaxWords {
			wantMake(t, h, 0, api.MaxLen, 0, api.ErrFull)
			wantMake(t, h, 1, 1008, 0, api.ErrFull)
			wantMake(t, h, 2, 16, 0, api.ErrFull)
			wantLive(t, h)
			continue
		}
		for _, one := range [][2]int{{0, api.MaxLen}, {1, 1008}, {2, 16}} {
			wantMake(t, h, one[0], one[1], 1, api.OK)
			wantBase(t, h, one[1]*len(types[one[0]]), 1, one[0], one[1], api.OK)
			wantNoWord(t, h, one[1]*len(types[one[0]])+1)
			wantCollect(t, h, nil, 1, api.OK)
		}
	}
}

// P8.2: an object's words are n times the fields, but at least one, and it lies where the arena gives them.
func TestMakeLies(t *testing.T) {
	var types [][]int
	for fields := range 8 {
		types = append(types, make([]int, fields))
	}
	for fields := range 8 {
		for n := range 12 {
			h := made(t, 200, types...)
			words := max(1, n*fields)
			wantMake(t, h, 1, 1, 1, api.OK)
			wantMake(t, h, fields, n, 2, api.OK)
			wantMake(t, h, 1, 1, 2+arena.Class(words), api.OK)
			for p := 2; p < 2+words; p++ {
				wantBase(t, h, p, 2, fields, n, api.OK)
				wantGet(t, h, p, 0, api.OK)
			}
			for p := 2 + words; p < 2+arena.Class(words); p++ {
				wantNoWord(t, h, p)
			}
		}
	}
}

// P8.2: every class at the line, with just room enough and one word less; ErrFull changes nothing.
func TestMakeFull(t *testing.T) {
	for n := 1; n <= api.MaxLen; n += 1 + n/7 {
		need := arena.Class(3 * n)
		h := made(t, need, make([]int, 3))
		wantMake(t, h, 0, n, 1, api.OK)
		wantMake(t, h, 0, 0, 0, api.ErrFull)
		wantLive(t, h, 1)
		h = made(t, need-1, make([]int, 3))
		wantMake(t, h, 0, n, 0, api.ErrFull)
		wantLive(t, h)
		if need > 1 {
			wantMake(t, h, 0, 0, 1, api.OK)
		}
	}
}

// P8.2: a piece that comes again is empty, whatever lay there.
func TestMakeEmpty(t *testing.T) {
	h := made(t, 20, []int{api.Word, api.Any})
	wantMake(t, h, 0, 3, 1, api.OK)
	for p := 1; p <= 6; p++ {
		wantSet(t, h, p, p, api.OK)
	}
	wantCollect(t, h, nil, 1, api.OK)
	wantMake(t, h, 0, 3, 1, api.OK)
	for p := 1; p <= 6; p++ {
		wantGet(t, h, p, 0, api.OK)
	}
}

// P8.2: Base tells type and n of the object that is there now.
func TestBaseAgain(t *testing.T) {
	h := made(t, 20, []int{api.Word, api.Any}, []int{api.Word, api.Word, api.Word})
	wantMake(t, h, 0, 3, 1, api.OK)
	wantBase(t, h, 6, 1, 0, 3, api.OK)
	wantCollect(t, h, nil, 1, api.OK)
	for p := 1; p <= 6; p++ {
		wantNoWord(t, h, p)
	}
	wantMake(t, h, 1, 2, 1, api.OK)
	wantBase(t, h, 4, 1, 1, 2, api.OK)
	wantSet(t, h, 2, 77, api.OK)
}

// P8.2: Any, and Ptr and Arr of every type, are pointers in each element; Word is none.
func TestPointerFields(t *testing.T) {
	fields := []int{api.Any, api.Word, api.Ptr, api.Arr, api.Word, api.Ptr + 2, api.Arr + 2, api.Word}
	h := made(t, 100, fields, nil)
	wantMake(t, h, 0, 4, 1, api.OK)
	for i := range 4 * len(fields) {
		if fields[i%len(fields)] == api.Word {
			wantSet(t, h, 1+i, 99, api.OK)
			wantGet(t, h, 1+i, 99, api.OK)
		} else {
			wantSet(t, h, 1+i, 99, api.ErrArg)
			wantGet(t, h, 1+i, 0, api.OK)
			wantSet(t, h, 1+i, 1+i, api.OK)
			wantGet(t, h, 1+i, 1+i, api.OK)
		}
	}
}

// P8.2: a field's kind is that of its own type, not of another one.
func TestPointerFieldsOfType(t *testing.T) {
	h := made(t, 100, []int{api.Word, api.Any}, []int{api.Any, api.Word}, []int{api.Word}, []int{api.Arr})
	wantMake(t, h, 0, 2, 1, api.OK)
	wantMake(t, h, 1, 2, 5, api.OK)
	wantMake(t, h, 2, 2, 9, api.OK)
	wantMake(t, h, 3, 2, 11, api.OK)
	for p, pointer := range map[int]int{1: 0, 2: 1, 3: 0, 4: 1, 5: 1, 6: 0, 7: 1, 8: 0, 9: 0, 10: 0, 11: 1, 12: 1} {
		if pointer == 1 {
			wantSet(t, h, p, -1, api.ErrArg)
		} else {
			wantSet(t, h, p, -1, api.OK)
		}
	}
}

// P8.2: what a pointer may be: 0, and any word of any object; an error leaves what it was.
func TestPointers(t *testing.T) {
	h := made(t, 60, []int{api.Ptr}, []int{api.Word, api.Word, api.Word, api.Word, api.Word}, nil)
	wantMake(t, h, 0, 1, 1, api.OK)
	wantMake(t, h, 1, 1, 2, api.OK)
	wantMake(t, h, 1, 1, 8, api.OK)
	wantMake(t, h, 2, 3, 14, api.OK)
	wantMake(t, h, 0, 0, 15, api.OK)
	wantCollect(t, h, []int{1, 2, 14, 15}, 1, api.OK)
	for v := -2; v <= 62; v++ {
		if v >= 0 && v <= 6 || v == 14 || v == 15 {
			wantSet(t, h, 1, v, api.OK)
			wantGet(t, h, 1, v, api.OK)
		} else {
			wantSet(t, h, 1, 3, api.OK)
			wantSet(t, h, 1, v, api.ErrArg)
			wantGet(t, h, 1, 3, api.OK)
		}
	}
	for _, v := range []int{math.MinInt, math.MaxInt, 1 << 32, 1<<32 + 1, -1 << 63} {
		wantSet(t, h, 1, v, api.ErrArg)
	}
}

// P8.2: a field that is no pointer keeps any number.
func TestAnyWord(t *testing.T) {
	h := made(t, 10, []int{api.Word, api.Any, api.Word})
	wantMake(t, h, 0, 1, 1, api.OK)
	for _, v := range []int{0, 1, -1, 1 << 32, math.MaxInt, math.MinInt} {
		wantSet(t, h, 1, v, api.OK)
		wantGet(t, h, 1, v, api.OK)
		wantGet(t, h, 2, 0, api.OK)
		wantGet(t, h, 3, 0, api.OK)
	}
}

// P8.2: the one word of an object without fields is no pointer, be it of no elements or of a type without fields.
func TestWithoutFields(t *testing.T) {
	h := made(t, 20, []int{api.Any, api.Any}, nil)
	wantMake(t, h, 0, 0, 1, api.OK)
	wantMake(t, h, 1, 0, 2, api.OK)
	wantMake(t, h, 1, 1, 3, api.OK)
	wantMake(t, h, 1, api.MaxLen, 4, api.OK)
	for p := 1; p <= 4; p++ {
		for _, v := range []int{99, -1, math.MinInt, math.MaxInt, 2} {
			wantSet(t, h, p, v, api.OK)
			wantGet(t, h, p, v, api.OK)
		}
	}
	wantBase(t, h, 1, 1, 0, 0, api.OK)
	wantBase(t, h, 2, 2, 1, 0, api.OK)
	wantBase(t, h, 4, 4, 1, api.MaxLen, api.OK)
	wantCollect(t, h, []int{1, 3, 4}, 1, api.OK)
	wantLive(t, h, 1, 3, 4)
}

// P8.2: that p is no word is looked at ahead of v.
func TestSetOrder(t *testing.T) {
	h := made(t, 20, []int{api.Any, api.Any, api.Any, api.Any, api.Any})
	wantMake(t, h, 0, 1, 1, api.OK)
	for _, p := range []int{0, -1, 6, 7, 20, 21, math.MinInt, math.MaxInt} {
		for _, v := range []int{0, 1, 6, -1, math.MaxInt} {
			wantSet(t, h, p, v, api.ErrNone)
		}
	}
}
