package code_test

import (
	"bytes"
	"math"
	"slices"
	"sync"
	"testing"

	"halyard/api"
	"halyard/code"
)

// P10.2: no bytes, and such as begin otherwise.
func TestBeginning(t *testing.T) {
	for _, b := range [][]byte{nil, {}, {72}, {72, 89}, {72, 89, 49}, {0}, {0, 0, 0, 0}, {72, 89, 50, 0, 0, 0, 0}, {72, 88, 49, 0, 0, 0, 0}, {73, 89, 49, 0, 0, 0, 0}, {49, 89, 72, 0, 0, 0, 0}, {200, 89, 49, 0, 0, 0, 0}, {0, 72, 89, 49, 0, 0, 0, 0}, {72, 89, 0, 0, 0, 0}} {
		wantDecode(t, b, api.Prog{}, api.ErrText)
	}
}

// P10.2: bytes too few, at every place, and too many.
func TestTooFewTooMany(t *testing.T) {
	for _, p := range []api.Prog{{}, full(), withInstr(api.Instr{Op: 30, A: math.MinInt, B: 300})} {
		b := spelled(p)
		for n := range b {
			wantDecode(t, b[:n], api.Prog{}, api.ErrText)
		}
		for _, more := range [][]byte{{0}, {1}, {128}, {255}, {0, 0}, make([]byte, 1000), b} {
			wantDecode(t, slices.Concat(b, more), api.Prog{}, api.ErrText)
		}
	}
}

// replaced: the bytes with others in the place of one.
func replaced(b []byte, at int, with ...byte) []byte {
	return slices.Concat(b[:at], with, b[at+1:])
}

// P10.2: numbers with more bytes than will do, at the place of each number of a program.
func TestMoreBytesThanWillDo(t *testing.T) {
	b := fullBytes()
	texts := len(b) - 7
	for at := 3; at <= texts; at++ {
		if b[at] >= 128 {
			t.Fatalf("a number of two bytes at %d", at)
		}
		for n := range 12 {
			more := append([]byte{b[at] | 128}, bytes.Repeat([]byte{128}, n)...)
			wantDecode(t, replaced(b, at, append(more, 0)...), api.Prog{}, api.ErrText)
		}
	}
	for n, b := range numbers() {
		more := bytes.Clone(b)
		more[len(more)-1] |= 128
		wantNumber(t, b, n, true)
		wantNumber(t, append(more, 0), 0, false)
		wantNumber(t, append(more, 128, 0), 0, false)
	}
}

// wantNumber: bytes that stand for one field, one item of a table and one operand.
func wantNumber(t *testing.T, b []byte, n int, ok bool) {
	t.Helper()
	for _, c := range []struct {
		p    api.Prog
		b, c []byte
	}{
		{api.Prog{Types: []api.Layout{{Fields: []int{n}}}}, whole(2, 2), []byte{0, 0, 0}},
		{api.Prog{Tables: [][]int{{n}}}, whole(0, 0, 2, 2), []byte{0}},
		{api.Prog{Funcs: []api.Func{{Code: []api.Instr{{Op: 1, A: n}}}}}, whole(0, 2, 0, 0, 0, 0, 2, 2), []byte{0, 0, 0}},
		{api.Prog{Funcs: []api.Func{{Code: []api.Instr{{Op: 1, B: n}}}}}, whole(0, 2, 0, 0, 0, 0, 2, 2, 0), []byte{0, 0}},
	} {
		all := slices.Concat(c.b, b, c.c)
		if ok {
			wantDecode(t, all, c.p, api.OK)
		} else {
			wantDecode(t, all, api.Prog{}, api.ErrText)
		}
	}
}

// P10.2: numbers at their ends and beyond.
func TestNumbersBeyond(t *testing.T) {
	nine := func(first byte) []byte { return append([]byte{first}, bytes.Repeat([]byte{255}, 8)...) }
	wantNumber(t, append(nine(254), 1), math.MaxInt, true)
	wantNumber(t, append(nine(255), 1), math.MinInt, true)
	for last := 2; last < 128; last++ {
		wantNumber(t, append(nine(254), byte(last)), 0, false)
		wantNumber(t, append(bytes.Repeat([]byte{128}, 9), byte(last)), 0, false)
	}
	wantNumber(t, append(bytes.Repeat([]byte{128}, 9), 1), 1<<62, true)
	for n := 10; n < 40; n++ {
		for _, x := range []byte{128, 129, 255} {
			for _, last := range []byte{0, 1, 2, 127} {
				wantNumber(t, append(bytes.Repeat([]byte{x}, n), last), 0, false)
			}
		}
	}
}

// P10.2: counts below 0, and counts of more than there is, at the place of each.
func TestWrongCounts(t *testing.T) {
	b := whole(2, 2, 0, 2, 0, 2, 0, 2, 0, 2, 0, 2, 2, 0, 0, 2, 2, 0, 2, 2, 0)
	p := api.Prog{Types: []api.Layout{{Fields: []int{0}}}, Funcs: []api.Func{{Locals: []int{0}, Results: []int{0}, Areas: []int{0}, Code: []api.Instr{{Op: 1}}}}, Tables: [][]int{{0}}, Strs: []string{"\x00"}}
	wantBoth(t, p, b)
	for _, at := range []int{3, 4, 6, 8, 10, 12, 14, 18, 19, 21, 22} {
		for _, with := range [][]byte{{1}, {3}, {127}, {129, 1}, {80}, {128, 1}, {254, 255, 3}, {128, 128, 128, 4}, {254, 255, 255, 255, 15}, {255, 255, 255, 255, 15}, {254, 255, 255, 255, 255, 255, 255, 255, 255, 1}, {255, 255, 255, 255, 255, 255, 255, 255, 255, 1}, {128, 128, 128, 128, 128, 128, 128, 128, 128, 1}} {
			wantDecode(t, replaced(b, at, with...), api.Prog{}, api.ErrText)
		}
	}
}

// P10.2: a count of just what is left, or of one more.
func TestCountsOfTheRest(t *testing.T) {
	wantDecode(t, whole(0, 0, 0, 2, 6, 'a', 'b', 'c'), api.Prog{Strs: []string{"abc"}}, api.OK)
	wantDecode(t, whole(0, 0, 0, 2, 8, 'a', 'b', 'c'), api.Prog{}, api.ErrText)
	wantDecode(t, whole(0, 0, 0, 2, 4, 'a', 'b', 'c'), api.Prog{}, api.ErrText)
	wantDecode(t, whole(0, 0, 0, 4, 0, 0), api.Prog{Strs: []string{"", ""}}, api.OK)
	wantDecode(t, whole(0, 0, 0, 6, 0, 0), api.Prog{}, api.ErrText)
	wantDecode(t, whole(6, 0, 0, 0), api.Prog{}, api.ErrText)
	wantDecode(t, whole(0, 2, 0, 0, 0, 0, 2, 2, 0), api.Prog{}, api.ErrText)
}

// P10.2: what is not sound by its bytes alone: Params and Op are numbers, not counts, and may be below 0.
func TestUnsoundNumbers(t *testing.T) {
	wantDecode(t, whole(0, 2, 1, 0, 0, 0, 0, 0, 0), api.Prog{}, api.ErrForm)
	wantDecode(t, whole(0, 2, 2, 0, 0, 0, 0, 0, 0), api.Prog{}, api.ErrForm)
	for _, op := range []byte{0, 1, 3, 57, 59, 60, 127} {
		wantDecode(t, whole(0, 2, 0, 0, 0, 0, 2, op, 0, 0, 0, 0), api.Prog{}, api.ErrForm)
	}
}

// spare: a list's whole room, that behind its end too.
func spare[T any](list []T) []T { return list[:cap(list)] }

// R4: Encode changes nothing of what it is given, spare room included; nor do Sound, or an Encode that fails.
func TestEncodeChangesNothing(t *testing.T) {
	roomy := func(list ...int) []int { return append(list, 77, 78, 79)[:len(list)] }
	prog := func() api.Prog {
		f := api.Func{Params: 1, Locals: roomy(1, 2), Results: roomy(3), Areas: roomy(), Code: append(instrs(2), instrs(3)...)[:2]}
		p := api.Prog{Types: []api.Layout{{Fields: roomy(5)}, {Fields: roomy(6, 7)}}[:1], Funcs: []api.Func{f, {Params: 9}}[:1], Tables: [][]int{roomy(8), roomy(9)}[:1], Strs: []string{"a", "b"}[:1]}
		return p
	}
	all := func(p api.Prog) []byte {
		p.Types, p.Funcs, p.Tables, p.Strs = spare(p.Types), spare(p.Funcs), spare(p.Tables), spare(p.Strs)
		b := spelled(p)
		for _, list := range [][]int{p.Types[0].Fields, p.Funcs[0].Locals, p.Funcs[0].Results, p.Funcs[0].Areas, p.Tables[0]} {
			b = append(b, spelled(api.Prog{Tables: [][]int{spare(list)}})...)
		}
		return append(b, spelled(api.Prog{Funcs: []api.Func{{Code: spare(p.Funcs[0].Code)}}})...)
	}
	for _, params := range []int{1, 3} {
		p, want := prog(), prog()
		p.Funcs[0].Params, want.Funcs[0].Params = params, params
		code.Encode(p)
		code.Sound(p)
		if !bytes.Equal(all(p), all(want)) {
			t.Errorf("the program was changed: %v", p)
		}
	}
}

// R4: Decode changes nothing of its bytes, nor of their spare room, and keeps nothing of them.
func TestDecodeChangesNothing(t *testing.T) {
	for _, more := range [][]byte{{}, {9, 9, 9}} {
		b := append(fullBytes(), 7, 8, 9)
		b = b[:len(b)-3+len(more)]
		old := bytes.Clone(spare(b))
		p, e := code.Decode(b)
		if !bytes.Equal(spare(b), old) {
			t.Errorf("the bytes were changed: %v", spare(b))
		}
		clear(spare(b))
		if len(more) == 0 && (e != api.OK || !same(p, full())) {
			t.Errorf("the program hangs on its bytes: %v, %d", p, e)
		}
	}
}

// scribble fills all room of a program's lists of numbers and instructions.
func scribble(p api.Prog, n int) {
	var lists [][]int
	for _, l := range p.Types {
		lists = append(lists, l.Fields)
	}
	for _, f := range p.Funcs {
		lists = append(lists, f.Locals, f.Results, f.Areas)
		for i := range spare(f.Code) {
			spare(f.Code)[i] = api.Instr{Op: n, A: n, B: n}
		}
	}
	for _, list := range append(lists, p.Tables...) {
		for i := range spare(list) {
			spare(list)[i] = n
		}
	}
}

// R4: two programs that Decode answers share nothing.
func TestAnswersAreNew(t *testing.T) {
	b := fullBytes()
	p, _ := code.Decode(b)
	q, _ := code.Decode(b)
	scribble(p, -5)
	clear(spare(p.Types))
	clear(spare(p.Funcs))
	clear(spare(p.Tables))
	clear(spare(p.Strs))
	if !same(q, full()) {
		t.Errorf("the second program: %v", q)
	}
	c, _ := code.Encode(q)
	d, _ := code.Encode(q)
	clear(spare(c))
	if !bytes.Equal(d, b) {
		t.Errorf("the second bytes: %v", d)
	}
	scribble(q, 3)
	if !bytes.Equal(d, b) {
		t.Errorf("the bytes hang on their program: %v", d)
	}
}

// R4: no two lists of one answer share memory, spare room included: each is filled in its turn, and all keep what they were filled with.
func TestListsShareNothing(t *testing.T) {
	list := []int{1, 2, 3}
	f := api.Func{Params: 1, Locals: list, Results: list, Areas: list, Code: instrs(3)}
	b, e := code.Encode(api.Prog{Types: []api.Layout{{Fields: list}, {Fields: list}}, Funcs: []api.Func{f, f, {}}, Tables: [][]int{list, list, nil}})
	if e != api.OK {
		t.Fatal(e)
	}
	p, _ := code.Decode(b)
	var lists [][]int
	var codes [][]api.Instr
	for i := range 2 {
		lists = append(lists, p.Types[i].Fields, p.Funcs[i].Locals, p.Funcs[i].Results, p.Funcs[i].Areas, p.Tables[i])
		codes = append(codes, p.Funcs[i].Code)
	}
	wantApart(t, lists, func(i int) int { return 100 + i })
	wantApart(t, codes, func(i int) api.Instr { return api.Instr{Op: 100 + i} })
}

func wantApart[T comparable](t *testing.T, lists [][]T, mark func(i int) T) {
	t.Helper()
	for i, list := range lists {
		for j := range spare(list) {
			spare(list)[j] = mark(i)
		}
	}
	for i, list := range lists {
		if len(list) == 0 {
			t.Errorf("list %d is empty", i)
		}
		for _, x := range spare(list) {
			if x != mark(i) {
				t.Errorf("list %d has another's items: %v", i, spare(list))
			}
		}
	}
}

// R4: one list in several places of what is handed in is written in each.
func TestSharedLists(t *testing.T) {
	list := []int{5, 6}
	f := api.Func{Params: 2, Locals: list, Results: list[:1], Areas: list[1:], Code: instrs(1)}
	p := api.Prog{Types: []api.Layout{{Fields: list}}, Funcs: []api.Func{f, f}, Tables: [][]int{list, list[:1]}}
	wantBoth(t, p, spelled(p))
}

// R5: a call that fails, or that is of another program, changes no later one; and calls at the same time do not meet.
func TestNothingIsKept(t *testing.T) {
	p, b := full(), fullBytes()
	var all sync.WaitGroup
	for i := range 8 {
		all.Go(func() {
			for range 50 {
				code.Decode(b[:i+4])
				code.Encode(withFunc(api.Func{Params: -1 - i}))
				if c, e := code.Encode(p); e != api.OK || !bytes.Equal(c, b) {
					t.Errorf("Encode: %v, %d", c, e)
				}
				if q, e := code.Decode(b); e != api.OK || !same(p, q) {
					t.Errorf("Decode: %v, %d", q, e)
				}
			}
		})
	}
	all.Wait()
}

// R3, P10.1: beside an error there are no bytes, and beside one of Decode no program, not even a piece.
func TestBesideErrors(t *testing.T) {
	if b, e := code.Encode(withFunc(api.Func{Params: 1})); len(b) != 0 || e != api.ErrForm {
		t.Errorf("Encode: %v, %d", b, e)
	}
	for _, b := range [][]byte{fullBytes()[:30], append(fullBytes(), 0), spelled(withFunc(api.Func{Params: 1}))} {
		p, e := code.Decode(b)
		if e == api.OK || len(p.Types)+len(p.Funcs)+len(p.Tables)+len(p.Strs) != 0 {
			t.Errorf("Decode: %v, %d", p, e)
		}
	}
}
