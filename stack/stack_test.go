package stack_test

import (
	"math"
	"slices"
	"testing"

	"halyard/api"
	"halyard/stack"
)

// greatest is the greatest address at which a stack may begin, as the chapter writes it.
const greatest = 1099511627776

// made is a stack; the test ends if there is none.
func made(t *testing.T, base, most int) *stack.Stack {
	t.Helper()
	s, e := stack.New(base, most)
	if s == nil || e != api.OK {
		t.Fatalf("New(%d, %d): %v, %d", base, most, s, e)
	}
	return s
}

// frames is a stack with frames: a letter a word, p for a pointer and w for another one.
func frames(t *testing.T, base, most int, list ...string) *stack.Stack {
	t.Helper()
	s := made(t, base, most)
	for _, letters := range list {
		wantPush(t, s, letters, api.OK)
	}
	return s
}

func kinds(letters string) []bool {
	list := make([]bool, len(letters))
	for i := range list {
		list[i] = letters[i] == 'p'
	}
	return list
}

func wantPush(t *testing.T, s *stack.Stack, letters string, err api.Errno) {
	t.Helper()
	if e := s.Push(kinds(letters)); e != err {
		t.Fatalf("Push(%.20s), %d words: %d; want %d", letters, len(letters), e, err)
	}
}

func wantPop(t *testing.T, s *stack.Stack, err api.Errno) {
	t.Helper()
	if e := s.Pop(); e != err {
		t.Fatalf("Pop: %d; want %d", e, err)
	}
}

func wantFrames(t *testing.T, s *stack.Stack, want ...int) {
	t.Helper()
	if got := s.Frames(); !slices.Equal(got, want) {
		t.Fatalf("Frames: %v; want %v", got, want)
	}
}

func wantAddr(t *testing.T, s *stack.Stack, frame, i, want int, err api.Errno) {
	t.Helper()
	if p, e := s.Addr(frame, i); p != want || e != err {
		t.Fatalf("Addr(%d, %d): %d, %d; want %d, %d", frame, i, p, e, want, err)
	}
}

func wantGet(t *testing.T, s *stack.Stack, addr, want int, err api.Errno) {
	t.Helper()
	if v, e := s.Get(addr); v != want || e != err {
		t.Fatalf("Get(%d): %d, %d; want %d, %d", addr, v, e, want, err)
	}
}

func wantSet(t *testing.T, s *stack.Stack, addr, v int, err api.Errno) {
	t.Helper()
	if e := s.Set(addr, v); e != err {
		t.Fatalf("Set(%d, %d): %d; want %d", addr, v, e, err)
	}
}

func wantMove(t *testing.T, s *stack.Stack, base, want int, err api.Errno) {
	t.Helper()
	if n, e := s.Move(base); n != want || e != err {
		t.Fatalf("Move(%d): %d, %d; want %d, %d", base, n, e, want, err)
	}
}

// wantWords: from base on these words stand, and none around them.
func wantWords(t *testing.T, s *stack.Stack, base int, want ...int) {
	t.Helper()
	for i, v := range want {
		wantGet(t, s, base+i, v, api.OK)
	}
	wantNoWord(t, s, base-1)
	wantNoWord(t, s, base+len(want))
}

// wantNoWord: addr is no word's address, for any call.
func wantNoWord(t *testing.T, s *stack.Stack, addr int) {
	t.Helper()
	wantGet(t, s, addr, 0, api.ErrNone)
	wantSet(t, s, addr, 1, api.ErrNone)
}

// put sets the words from addr on.
func put(t *testing.T, s *stack.Stack, addr int, list ...int) {
	t.Helper()
	for i, v := range list {
		wantSet(t, s, addr+i, v, api.OK)
	}
}

// The chapter's example, step by step.
func TestExample(t *testing.T) {
	s := made(t, 100, 10)
	wantPush(t, s, "wp", api.OK)
	wantPush(t, s, "p", api.OK)
	wantAddr(t, s, 1, 0, 102, api.OK)
	wantSet(t, s, 101, 102, api.OK)
	wantSet(t, s, 102, 100, api.OK)
	wantSet(t, s, 100, 101, api.OK)
	wantPop(t, s, api.ErrArg)
	wantMove(t, s, 500, 2, api.OK)
	wantWords(t, s, 500, 101, 502, 500)
}

// P9.1: the bounds of the base and of the words.
func TestNewBounds(t *testing.T) {
	for _, base := range []int{1, 2, 100, greatest - 1, greatest} {
		for _, most := range []int{0, 1, api.MaxWords - 1, api.MaxWords} {
			wantFrames(t, made(t, base, most))
		}
	}
	bases := []int{0, -1, greatest + 1, -greatest, math.MinInt, math.MaxInt}
	mosts := []int{-1, api.MaxWords + 1, 1 << 32, -1 << 32, math.MinInt, math.MaxInt}
	wrong := func(base, most int) {
		t.Helper()
		if s, e := stack.New(base, most); s != nil || e != api.ErrArg {
			t.Errorf("New(%d, %d): %v, %d", base, most, s, e)
		}
	}
	for _, base := range bases {
		wrong(base, 0)
		wrong(base, 10)
		wrong(base, api.MaxWords)
		for _, most := range mosts {
			wrong(base, most)
		}
	}
	for _, most := range mosts {
		wrong(1, most)
		wrong(100, most)
		wrong(greatest, most)
	}
}

// P9.1: frames stand one behind the other from the base on, those without words between them.
func TestOneBehindTheOther(t *testing.T) {
	for _, base := range []int{1, 2, 77, greatest} {
		s := frames(t, base, 20, "", "wp", "", "", "pwp", "w", "")
		wantFrames(t, s, 0, 2, 0, 0, 3, 1, 0)
		wantAddr(t, s, 1, 0, base, api.OK)
		wantAddr(t, s, 1, 1, base+1, api.OK)
		wantAddr(t, s, 4, 0, base+2, api.OK)
		wantAddr(t, s, 4, 2, base+4, api.OK)
		wantAddr(t, s, 5, 0, base+5, api.OK)
		wantWords(t, s, base, 0, 0, 0, 0, 0, 0)
	}
}

// P9.2: as many words as were allowed, in one frame or in many, and one more.
func TestMostWords(t *testing.T) {
	for _, most := range []int{0, 1, 2, 10, 500} {
		s := made(t, 50, most)
		for range most + 1 {
			wantPush(t, s, string(make([]byte, most+1)), api.ErrFull)
			if len(s.Frames()) < most {
				wantPush(t, s, "w", api.OK)
			}
		}
		wantPush(t, s, "p", api.ErrFull)
		wantPush(t, s, "", api.OK)
		wantPop(t, s, api.OK)
		if most > 0 {
			wantPop(t, s, api.OK)
			wantPush(t, s, "pp", api.ErrFull)
			wantPush(t, s, "p", api.OK)
		}
		s = frames(t, 50, most, string(make([]byte, most)))
		wantPush(t, s, "w", api.ErrFull)
		wantFrames(t, s, most)
	}
}

// P9.2: the greatest stack at the greatest base.
func TestMaxWords(t *testing.T) {
	s := made(t, greatest, api.MaxWords)
	wantPush(t, s, string(make([]byte, api.MaxWords+1)), api.ErrFull)
	wantPush(t, s, string(make([]byte, api.MaxWords-1)), api.OK)
	wantPush(t, s, "pp", api.ErrFull)
	wantPush(t, s, "p", api.OK)
	wantPush(t, s, "p", api.ErrFull)
	wantAddr(t, s, 1, 0, greatest+api.MaxWords-1, api.OK)
	wantSet(t, s, greatest+api.MaxWords-1, greatest, api.OK)
	wantMove(t, s, 1, 1, api.OK)
	wantGet(t, s, api.MaxWords, 1, api.OK)
	wantNoWord(t, s, api.MaxWords+1)
	wantNoWord(t, s, greatest)
}

// P9.2: as many frames as there may be, with and without words, and one more.
func TestMaxFrames(t *testing.T) {
	for _, letters := range []string{"", "p"} {
		s := made(t, 9, api.MaxWords)
		for range api.MaxFrames {
			wantPush(t, s, letters, api.OK)
		}
		wantPush(t, s, "", api.ErrFull)
		wantPush(t, s, "w", api.ErrFull)
		if n := len(s.Frames()); n != api.MaxFrames {
			t.Fatalf("%d frames", n)
		}
		wantPop(t, s, api.OK)
		wantPush(t, s, "w", api.OK)
		wantPush(t, s, "", api.ErrFull)
		for range api.MaxFrames {
			wantPop(t, s, api.OK)
		}
		wantPop(t, s, api.ErrNone)
	}
}

// P9.2: a frame comes with zeros, whatever stood there ahead of it, and with its own pointers.
func TestNewFrameIsEmpty(t *testing.T) {
	s := frames(t, 10, 10, "w", "ppp")
	put(t, s, 10, 5, 11, 12, 13)
	wantPop(t, s, api.OK)
	wantWords(t, s, 10, 5)
	wantPush(t, s, "wwwp", api.OK)
	wantWords(t, s, 10, 5, 0, 0, 0, 0)
	put(t, s, 10, 5, 11, 12, 13, 14)
	wantMove(t, s, 30, 1, api.OK)
	wantWords(t, s, 30, 5, 11, 12, 13, 34)
}

// P9.2: the last frame goes, and no other; then the one ahead of it.
func TestPopLast(t *testing.T) {
	s := frames(t, 10, 10, "wp", "", "pww", "w")
	put(t, s, 10, 1, 0, 3, 4, 5, 6)
	wantPop(t, s, api.OK)
	wantFrames(t, s, 2, 0, 3)
	wantWords(t, s, 10, 1, 0, 3, 4, 5)
	wantAddr(t, s, 3, 0, 0, api.ErrNone)
	wantPop(t, s, api.OK)
	wantFrames(t, s, 2, 0)
	wantPop(t, s, api.OK)
	wantFrames(t, s, 2)
	wantWords(t, s, 10, 1, 0)
	wantPop(t, s, api.OK)
	wantFrames(t, s)
	wantWords(t, s, 10)
	wantPop(t, s, api.ErrNone)
}

// P9.2: a pointer of any other frame keeps the last one, at whichever word of it.
func TestPopNamed(t *testing.T) {
	for _, from := range []int{20, 22, 23, 25} {
		for to := 19; to <= 31; to++ {
			s := frames(t, 20, 20, "pw", "", "pp", "wp", "ppwp")
			wantSet(t, s, from, to, api.OK)
			err := api.OK
			if to >= 26 && to <= 29 {
				err = api.ErrArg
			}
			wantPop(t, s, err)
			if err == api.OK {
				continue
			}
			wantFrames(t, s, 2, 0, 2, 2, 4)
			wantGet(t, s, from, to, api.OK)
			wantSet(t, s, from, 0, api.OK)
			wantPop(t, s, api.OK)
		}
	}
}

// P9.2: words that are no pointers keep nothing, nor do the last frame's own pointers.
func TestPopNotNamed(t *testing.T) {
	s := frames(t, 20, 20, "wp", "w", "pp")
	put(t, s, 20, 23, 20, 24, 24, 23)
	wantPop(t, s, api.OK)
	put(t, s, 20, 22, 21, 22)
	wantPop(t, s, api.OK)
	put(t, s, 20, 21, 21)
	wantPop(t, s, api.OK)
	wantPop(t, s, api.ErrNone)
}

// P9.2: a pointer to a frame in between keeps that one only when it is the last.
func TestPopBetween(t *testing.T) {
	s := frames(t, 20, 20, "p", "w", "w")
	wantSet(t, s, 20, 21, api.OK)
	wantPop(t, s, api.OK)
	wantPop(t, s, api.ErrArg)
	wantPush(t, s, "ww", api.OK)
	wantPop(t, s, api.OK)
	wantPop(t, s, api.ErrArg)
	wantSet(t, s, 20, 20, api.OK)
	wantPop(t, s, api.OK)
}

// P9.2: a frame without words is named by nobody, though a pointer has the address that it stands at.
func TestPopWithoutWords(t *testing.T) {
	s := frames(t, 20, 20, "pp", "")
	put(t, s, 20, 22, 20)
	wantPop(t, s, api.OK)
	wantFrames(t, s, 2)
	s = frames(t, 20, 20, "", "", "p")
	wantSet(t, s, 20, 20, api.OK)
	wantPop(t, s, api.OK)
	wantPop(t, s, api.OK)
	wantPop(t, s, api.OK)
	wantPop(t, s, api.ErrNone)
}

// P9.2, P9.4: what a pointer names is told when it is asked for: an address without a word may get one later.
func TestNamedLater(t *testing.T) {
	s := frames(t, 20, 20, "pp")
	put(t, s, 20, 23, 22)
	wantMove(t, s, 20, 0, api.OK)
	wantPush(t, s, "w", api.OK)
	wantPop(t, s, api.ErrArg)
	wantMove(t, s, 20, 1, api.OK)
	wantPush(t, s, "w", api.OK)
	wantPop(t, s, api.ErrArg)
	wantMove(t, s, 120, 2, api.OK)
	wantWords(t, s, 120, 123, 122, 0, 0)
}

// P9.3: every word of every frame, and none beside them.
func TestAddrs(t *testing.T) {
	s := frames(t, 40, 20, "www", "", "pp", "w")
	sizes := []int{3, 0, 2, 1}
	at := 40
	for frame, size := range sizes {
		wantAddr(t, s, frame, -1, 0, api.ErrNone)
		for i := range size {
			wantAddr(t, s, frame, i, at, api.OK)
			at++
		}
		for _, i := range []int{size, size + 1, 1 << 32, -1 << 32, math.MinInt, math.MaxInt} {
			wantAddr(t, s, frame, i, 0, api.ErrNone)
		}
	}
	for _, frame := range []int{-1, 4, 5, 1 << 32, -1 << 32, math.MinInt, math.MaxInt} {
		for _, i := range []int{0, -1, 1, math.MinInt, math.MaxInt} {
			wantAddr(t, s, frame, i, 0, api.ErrNone)
		}
	}
}

// P9.3: a word keeps any number, a pointer too, and its neighbours keep theirs.
func TestAnyWord(t *testing.T) {
	s := frames(t, 40, 20, "wp", "pw")
	values := []int{0, 1, -1, 39, 40, 43, 44, 1 << 40, 1 << 32, math.MinInt, math.MaxInt}
	for _, addr := range []int{40, 41, 42, 43} {
		put(t, s, 40, 7, 7, 7, 7)
		for _, v := range values {
			wantSet(t, s, addr, v, api.OK)
			for other := 40; other <= 43; other++ {
				want := 7
				if other == addr {
					want = v
				}
				wantGet(t, s, other, want, api.OK)
			}
		}
	}
}

// P9.3: addresses without a word, at the ends of numbers and at the ends of the stack.
func TestNoWord(t *testing.T) {
	far := []int{0, -1, 1 << 32, -1 << 32, 1<<32 + 40, greatest - 1, math.MinInt, math.MinInt + 1, math.MaxInt - 1, math.MaxInt}
	for _, base := range []int{1, 40} {
		s := frames(t, base, 20, "wp", "", "w")
		put(t, s, base, 4, 5, 6)
		for _, addr := range append(far, base-1, base+3, base+19, base+20) {
			wantNoWord(t, s, addr)
		}
		wantWords(t, s, base, 4, 5, 6)
	}
	s := frames(t, greatest, 20, "ww")
	for _, addr := range append(far, 1, 2, greatest+2) {
		wantNoWord(t, s, addr)
	}
	wantNoWord(t, made(t, 40, 20), 40)
	wantNoWord(t, frames(t, 40, 20, "", ""), 40)
}
