package arena_test

import (
	"math"
	"slices"
	"testing"

	"halyard/api"
	"halyard/arena"
)

// made is an arena of so many words; the test ends if there is none.
func made(t *testing.T, words int) *arena.Arena {
	t.Helper()
	a, e := arena.New(words)
	if a == nil || e != api.OK {
		t.Fatalf("New(%d): %v, %d", words, a, e)
	}
	return a
}

func wantAlloc(t *testing.T, a *arena.Arena, n, want int, err api.Errno) {
	t.Helper()
	if p, e := a.Alloc(n); p != want || e != err {
		t.Fatalf("Alloc(%d): %d, %d; want %d, %d", n, p, e, want, err)
	}
}

func wantFree(t *testing.T, a *arena.Arena, addr int, err api.Errno) {
	t.Helper()
	if e := a.Free(addr); e != err {
		t.Fatalf("Free(%d): %d; want %d", addr, e, err)
	}
}

func wantSize(t *testing.T, a *arena.Arena, addr, want int, err api.Errno) {
	t.Helper()
	if n, e := a.Size(addr); n != want || e != err {
		t.Fatalf("Size(%d): %d, %d; want %d, %d", addr, n, e, want, err)
	}
}

func wantFind(t *testing.T, a *arena.Arena, addr, want int, err api.Errno) {
	t.Helper()
	if p, e := a.Find(addr); p != want || e != err {
		t.Fatalf("Find(%d): %d, %d; want %d, %d", addr, p, e, want, err)
	}
}

func wantGet(t *testing.T, a *arena.Arena, addr, want int, err api.Errno) {
	t.Helper()
	if v, e := a.Get(addr); v != want || e != err {
		t.Fatalf("Get(%d): %d, %d; want %d, %d", addr, v, e, want, err)
	}
}

func wantSet(t *testing.T, a *arena.Arena, addr, v int, err api.Errno) {
	t.Helper()
	if e := a.Set(addr, v); e != err {
		t.Fatalf("Set(%d, %d): %d; want %d", addr, v, e, err)
	}
}

func wantLive(t *testing.T, a *arena.Arena, want ...int) {
	t.Helper()
	if got := a.Live(); !slices.Equal(got, want) {
		t.Fatalf("Live: %v; want %v", got, want)
	}
}

// The chapter's example, step by step.
func TestExample(t *testing.T) {
	a := made(t, 20)
	wantAlloc(t, a, 5, 1, api.OK)
	wantAlloc(t, a, 3, 7, api.OK)
	wantAlloc(t, a, 1, 10, api.OK)
	wantGet(t, a, 6, 0, api.ErrNone)
	wantFree(t, a, 1, api.OK)
	wantAlloc(t, a, 6, 1, api.OK)
	wantAlloc(t, a, 11, 0, api.ErrFull)
	wantAlloc(t, a, 9, 0, api.ErrFull)
	wantAlloc(t, a, 8, 11, api.OK)
	wantLive(t, a, 1, 7, 10, 11)
}

// P7.1: New's bounds.
func TestNew(t *testing.T) {
	for _, words := range []int{-1, api.MaxWords + 1, math.MinInt, math.MaxInt} {
		if a, e := arena.New(words); a != nil || e != api.ErrArg {
			t.Errorf("New(%d): %v, %d", words, a, e)
		}
	}
	for _, words := range []int{0, 1, 2, api.MaxWords - 1, api.MaxWords} {
		a := made(t, words)
		wantLive(t, a)
		wantFind(t, a, 1, 0, api.ErrNone)
	}
}

// P7.1: the addresses are 1 to words, none less and none more.
func TestAddresses(t *testing.T) {
	for _, words := range []int{0, 1, 2, 7, 100} {
		a := made(t, words)
		for i := 1; i <= words; i++ {
			wantAlloc(t, a, 1, i, api.OK)
		}
		wantAlloc(t, a, 1, 0, api.ErrFull)
		wantFind(t, a, 0, 0, api.ErrNone)
		wantFind(t, a, words+1, 0, api.ErrNone)
		for i := 1; i <= words; i++ {
			wantSet(t, a, i, -i, api.OK)
		}
		for i := 1; i <= words; i++ {
			wantGet(t, a, i, -i, api.OK)
		}
	}
}

// classes lists all of them, rising, from the chapter's words.
func classes() []int {
	var list []int
	for k := 1; k <= 4096; k *= 2 {
		list = append(list, k, 3*k)
	}
	list = slices.DeleteFunc(list, func(c int) bool { return c > 4096 })
	for c := 5 * 1024; c <= api.MaxWords; c += 1024 {
		list = append(list, c)
	}
	slices.Sort(list)
	return list
}

// P7.1: Class at every n that has one.
func TestClass(t *testing.T) {
	list := classes()
	if !slices.Equal(list[:13], []int{1, 2, 3, 4, 6, 8, 12, 16, 24, 32, 48, 64, 96}) {
		t.Fatalf("classes: %v", list[:13])
	}
	at := 0
	for n := 1; n <= api.MaxWords; n++ {
		if list[at] < n {
			at++
		}
		if got := arena.Class(n); got != list[at] {
			t.Fatalf("Class(%d): %d; want %d", n, got, list[at])
		}
	}
	for n, want := range map[int]int{3072: 3072, 3073: 4096, 4096: 4096, 4097: 5120, 5120: 5120, 5121: 6144, 6145: 7168, 64512: 64512, 64513: 65536, 65536: 65536} {
		if got := arena.Class(n); got != want {
			t.Errorf("Class(%d): %d; want %d", n, got, want)
		}
	}
}

// P7.1: Class of what has none.
func TestNoClass(t *testing.T) {
	for _, n := range []int{0, -1, -3, -4096, api.MaxWords + 1, api.MaxWords + 1024, 1 << 32, 1<<32 + 1, math.MinInt, math.MaxInt, math.MaxInt - 1023} {
		if got := arena.Class(n); got != 0 {
			t.Errorf("Class(%d): %d", n, got)
		}
	}
}

// P7.2: Alloc's bounds are looked at ahead of the room, and change nothing.
func TestAllocArg(t *testing.T) {
	for _, words := range []int{0, 10, api.MaxWords} {
		a := made(t, words)
		for _, n := range []int{0, -1, api.MaxWords + 1, math.MinInt, math.MaxInt} {
			wantAlloc(t, a, n, 0, api.ErrArg)
		}
		wantLive(t, a)
		if words > 0 {
			wantAlloc(t, a, 1, 1, api.OK)
		}
	}
}

// P7.2: every class at the line: with just room enough, and with one word less.
func TestAllocRoom(t *testing.T) {
	for _, class := range classes() {
		for _, ahead := range []int{0, 1} {
			words := class + ahead
			if words > api.MaxWords {
				continue
			}
			wantRoom(t, class, ahead, words, api.OK)
			wantRoom(t, class, ahead, words-1, api.ErrFull)
		}
	}
}

func wantRoom(t *testing.T, class, ahead, words int, err api.Errno) {
	t.Helper()
	least := 1
	for arena.Class(least) != class {
		least++
	}
	for _, n := range []int{least, class} {
		a := made(t, words)
		for i := 1; i <= ahead; i++ {
			wantAlloc(t, a, 1, i, api.OK)
		}
		if err != api.OK {
			wantAlloc(t, a, n, 0, err)
			continue
		}
		wantAlloc(t, a, n, ahead+1, api.OK)
		wantSize(t, a, ahead+1, n, api.OK)
		wantFind(t, a, ahead+n, ahead+1, api.OK)
		wantFind(t, a, ahead+n+1, 0, api.ErrNone)
		wantAlloc(t, a, 1, 0, api.ErrFull)
	}
}

// P7.2: the line goes behind the class's words, not behind the n asked for, and an ErrFull leaves it.
func TestLine(t *testing.T) {
	a := made(t, 40)
	wantAlloc(t, a, 9, 1, api.OK)
	wantAlloc(t, a, 5, 13, api.OK)
	wantAlloc(t, a, 7, 19, api.OK)
	wantAlloc(t, a, 13, 0, api.ErrFull)
	wantAlloc(t, a, api.MaxWords, 0, api.ErrFull)
	wantAlloc(t, a, 2, 27, api.OK)
	wantAlloc(t, a, 10, 29, api.OK)
	wantAlloc(t, a, 1, 0, api.ErrFull)
	wantLive(t, a, 1, 13, 19, 27, 29)
}

// P7.2: the line does not come back: what went back is given to its own class alone, and never parted or joined.
func TestOwnClass(t *testing.T) {
	a := made(t, 12)
	wantAlloc(t, a, 4, 1, api.OK)
	wantAlloc(t, a, 4, 5, api.OK)
	wantAlloc(t, a, 4, 9, api.OK)
	wantFree(t, a, 1, api.OK)
	wantFree(t, a, 5, api.OK)
	wantFree(t, a, 9, api.OK)
	for _, n := range []int{1, 2, 3, 5, 8, 12} {
		wantAlloc(t, a, n, 0, api.ErrFull)
	}
	wantAlloc(t, a, 4, 9, api.OK)
	wantAlloc(t, a, 4, 5, api.OK)
	wantAlloc(t, a, 4, 1, api.OK)
	wantAlloc(t, a, 4, 0, api.ErrFull)
}

// P7.2: what went back comes ahead of the line, the last one first, class by class.
func TestLastBack(t *testing.T) {
	a := made(t, 100)
	for _, at := range []int{1, 7, 13, 19} {
		wantAlloc(t, a, 5, at, api.OK)
	}
	wantAlloc(t, a, 2, 25, api.OK)
	wantAlloc(t, a, 2, 27, api.OK)
	for _, at := range []int{13, 25, 1, 27, 19} {
		wantFree(t, a, at, api.OK)
	}
	wantLive(t, a, 7)
	wantAlloc(t, a, 2, 27, api.OK)
	wantAlloc(t, a, 6, 19, api.OK)
	wantAlloc(t, a, 5, 1, api.OK)
	wantFree(t, a, 7, api.OK)
	wantAlloc(t, a, 6, 7, api.OK)
	wantAlloc(t, a, 6, 13, api.OK)
	wantAlloc(t, a, 6, 29, api.OK)
	wantAlloc(t, a, 2, 25, api.OK)
	wantAlloc(t, a, 2, 35, api.OK)
	wantLive(t, a, 1, 7, 13, 19, 25, 27, 29, 35)
}

// P7.2: of the great classes, too.
func TestGreatClasses(t *testing.T) {
	a := made(t, api.MaxWords)
	wantAlloc(t, a, 4097, 1, api.OK)
	wantAlloc(t, a, 5121, 5121, api.OK)
	wantFree(t, a, 1, api.OK)
	wantFree(t, a, 5121, api.OK)
	wantAlloc(t, a, 4096, 11265, api.OK)
	wantAlloc(t, a, 5120, 1, api.OK)
	wantAlloc(t, a, 5120, 15361, api.OK)
	wantAlloc(t, a, 6144, 5121, api.OK)
	wantAlloc(t, a, 45056, 20481, api.OK)
	wantAlloc(t, a, 1, 0, api.ErrFull)
	wantFind(t, a, api.MaxWords, 20481, api.OK)
	wantLive(t, a, 1, 5121, 11265, 15361, 20481)
}

// P7.2: one piece of all words.
func TestWhole(t *testing.T) {
	a := made(t, api.MaxWords)
	wantAlloc(t, a, api.MaxWords, 1, api.OK)
	wantSet(t, a, api.MaxWords, 8, api.OK)
	wantGet(t, a, api.MaxWords, 8, api.OK)
	wantGet(t, a, api.MaxWords+1, 0, api.ErrNone)
	wantAlloc(t, a, 1, 0, api.ErrFull)
	wantFree(t, a, 1, api.OK)
	wantAlloc(t, a, 1, 0, api.ErrFull)
	wantAlloc(t, a, api.MaxWords, 1, api.OK)
	wantGet(t, a, api.MaxWords, 0, api.OK)
}

// P7.2: the first n words are 0, whatever they were, and no other piece's word is touched.
func TestEmptied(t *testing.T) {
	a := made(t, 40)
	for _, at := range []int{1, 9, 17, 25} {
		wantAlloc(t, a, 8, at, api.OK)
	}
	for addr := 1; addr <= 32; addr++ {
		wantSet(t, a, addr, 100+addr, api.OK)
	}
	wantFree(t, a, 9, api.OK)
	wantAlloc(t, a, 7, 9, api.OK)
	wantFree(t, a, 17, api.OK)
	wantAlloc(t, a, 8, 17, api.OK)
	for addr := 1; addr <= 32; addr++ {
		switch {
		case addr == 16:
			wantGet(t, a, addr, 0, api.ErrNone)
		case addr >= 9 && addr <= 24:
			wantGet(t, a, addr, 0, api.OK)
		default:
			wantGet(t, a, addr, 100+addr, api.OK)
		}
	}
}

// P7.2: a word that was beyond a short piece is 0 in the longer one that follows it.
func TestEmptiedLonger(t *testing.T) {
	a := made(t, 8)
	wantAlloc(t, a, 8, 1, api.OK)
	wantSet(t, a, 8, 5, api.OK)
	wantFree(t, a, 1, api.OK)
	wantAlloc(t, a, 7, 1, api.OK)
	wantFree(t, a, 1, api.OK)
	wantAlloc(t, a, 8, 1, api.OK)
	wantGet(t, a, 8, 0, api.OK)
}

// P7.3: Free and Size at every address of a piece, around it and behind the line.
func TestBegin(t *testing.T) {
	a := made(t, 30)
	wantAlloc(t, a, 5, 1, api.OK)
	wantAlloc(t, a, 7, 7, api.OK)
	for addr := -2; addr <= 32; addr++ {
		switch addr {
		case 1:
			wantSize(t, a, addr, 5, api.OK)
		case 7:
			wantSize(t, a, addr, 7, api.OK)
		default:
			wantSize(t, a, addr, 0, api.ErrNone)
			wantFree(t, a, addr, api.ErrNone)
		}
	}
	wantLive(t, a, 1, 7)
	wantFree(t, a, 1, api.OK)
	wantFree(t, a, 1, api.ErrNone)
	wantSize(t, a, 1, 0, api.ErrNone)
	wantLive(t, a, 7)
	wantAlloc(t, a, 6, 1, api.OK)
	wantSize(t, a, 1, 6, api.OK)
	wantAlloc(t, a, 6, 15, api.OK)
}

// P7.3: a piece that goes back twice is given once.
func TestTwiceBack(t *testing.T) {
	a := made(t, 10)
	wantAlloc(t, a, 2, 1, api.OK)
	wantFree(t, a, 1, api.OK)
	wantFree(t, a, 1, api.ErrNone)
	wantAlloc(t, a, 2, 1, api.OK)
	wantAlloc(t, a, 2, 3, api.OK)
}

// P7.3: Find, Get and Set have the first n words alone, of pieces that are given alone.
func TestWordsOfPieces(t *testing.T) {
	a := made(t, 30)
	wantAlloc(t, a, 5, 1, api.OK)
	wantAlloc(t, a, 9, 7, api.OK)
	wantAlloc(t, a, 1, 19, api.OK)
	wantFree(t, a, 7, api.OK)
	held := func(addr, want int) {
		t.Helper()
		err := api.OK
		if want == 0 {
			err = api.ErrNone
		}
		wantFind(t, a, addr, want, err)
		wantSet(t, a, addr, 7*addr, err)
		if want == 0 {
			wantGet(t, a, addr, 0, err)
		} else {
			wantGet(t, a, addr, 7*addr, err)
		}
	}
	for addr := -2; addr <= 32; addr++ {
		switch {
		case addr >= 1 && addr <= 5:
			held(addr, 1)
		case addr == 19:
			held(addr, 19)
		default:
			held(addr, 0)
		}
	}
	wantAlloc(t, a, 10, 7, api.OK)
	for addr := 7; addr <= 16; addr++ {
		wantGet(t, a, addr, 0, api.OK)
		held(addr, 7)
	}
	held(17, 0)
	held(18, 0)
}

// P7.3: an error of Set leaves every word, that of a neighbour and of the same piece when it is longer.
func TestSetNothing(t *testing.T) {
	a := made(t, 20)
	wantAlloc(t, a, 5, 1, api.OK)
	wantAlloc(t, a, 5, 7, api.OK)
	for addr := 1; addr <= 5; addr++ {
		wantSet(t, a, addr, addr, api.OK)
		wantSet(t, a, addr+6, addr+6, api.OK)
	}
	for _, addr := range []int{0, 6, 12, 13, 20, 21, -1, math.MinInt, math.MaxInt} {
		wantSet(t, a, addr, 99, api.ErrNone)
	}
	for addr := 1; addr <= 5; addr++ {
		wantGet(t, a, addr, addr, api.OK)
		wantGet(t, a, addr+6, addr+6, api.OK)
	}
}

// P7.3: a word keeps any number.
func TestAnyWord(t *testing.T) {
	a := made(t, 3)
	wantAlloc(t, a, 3, 1, api.OK)
	for _, v := range []int{0, 1, -1, math.MaxInt, math.MinInt, 1 << 32} {
		wantSet(t, a, 2, v, api.OK)
		wantGet(t, a, 2, v, api.OK)
		wantGet(t, a, 1, 0, api.OK)
		wantGet(t, a, 3, 0, api.OK)
	}
}

// P7.3: Live rises, whatever the order in which pieces went back and came again.
func TestLiveRises(t *testing.T) {
	a := made(t, 50)
	wantLive(t, a)
	for at := 1; at <= 41; at += 4 {
		wantAlloc(t, a, 4, at, api.OK)
	}
	for _, at := range []int{21, 5, 41, 1, 33} {
		wantFree(t, a, at, api.OK)
	}
	wantLive(t, a, 9, 13, 17, 25, 29, 37)
	wantAlloc(t, a, 4, 33, api.OK)
	wantAlloc(t, a, 4, 1, api.OK)
	wantAlloc(t, a, 3, 45, api.OK)
	wantLive(t, a, 1, 9, 13, 17, 25, 29, 33, 37, 45)
}
