package code_test

import (
	"bytes"
	"fmt"
	"math"
	"reflect"
	"slices"
	"strings"
	"testing"

	"halyard/api"
	"halyard/code"
)

// begin is what every program's bytes begin with.
const begin = "\x48\x59\x31"

// whole: the bytes of a program, of which only what stands behind its beginning is told.
func whole(rest ...byte) []byte { return append([]byte(begin), rest...) }

// short and told: bytes and a program for a message, which may be cut.
func short(b []byte) []byte { return b[:min(len(b), 60)] }

func told(p api.Prog) string {
	text := fmt.Sprint(p)
	return text[:min(len(text), 200)]
}

func wantEncode(t *testing.T, p api.Prog, want []byte, err api.Errno) {
	t.Helper()
	if b, e := code.Encode(p); !bytes.Equal(b, want) || e != err {
		t.Fatalf("Encode: %v (%d bytes), %d; want %v (%d bytes), %d", short(b), len(b), e, short(want), len(want), err)
	}
}

func wantDecode(t *testing.T, b []byte, want api.Prog, err api.Errno) {
	t.Helper()
	if p, e := code.Decode(b); !same(p, want) || e != err {
		t.Fatalf("Decode(%v), %d bytes: %s, %d; want %s, %d", short(b), len(b), told(p), e, told(want), err)
	}
}

func wantSound(t *testing.T, p api.Prog, want bool) {
	t.Helper()
	if code.Sound(p) != want {
		t.Fatalf("Sound: %v of %s", !want, told(p))
	}
}

// wantBoth: a sound program, its bytes, and the way back.
func wantBoth(t *testing.T, p api.Prog, b []byte) {
	t.Helper()
	wantSound(t, p, true)
	wantEncode(t, p, b, api.OK)
	wantDecode(t, b, p, api.OK)
}

// wantUnsound: a program that is not sound, with the bytes that it would have.
func wantUnsound(t *testing.T, p api.Prog) {
	t.Helper()
	wantSound(t, p, false)
	wantEncode(t, p, nil, api.ErrForm)
	wantDecode(t, spelled(p), api.Prog{}, api.ErrForm)
}

// same: are two programs the same, where nil and empty lists are?
func same(p, q api.Prog) bool {
	return slices.EqualFunc(p.Types, q.Types, func(l, m api.Layout) bool { return slices.Equal(l.Fields, m.Fields) }) &&
		slices.EqualFunc(p.Funcs, q.Funcs, sameFunc) &&
		slices.EqualFunc(p.Tables, q.Tables, slices.Equal[[]int]) &&
		slices.Equal(p.Strs, q.Strs)
}

func sameFunc(f, g api.Func) bool {
	return f.Params == g.Params && slices.Equal(f.Locals, g.Locals) && slices.Equal(f.Results, g.Results) &&
		slices.Equal(f.Areas, g.Areas) && slices.Equal(f.Code, g.Code)
}

// full is a program with something in each of its lists, each part told from each other.
func full() api.Prog {
	return api.Prog{
		Types: []api.Layout{{Fields: []int{0, 2, 1}}, {}, {Fields: []int{3}}},
		Funcs: []api.Func{
			{Params: 1, Locals: []int{4, 5}, Results: []int{6}, Areas: []int{7, 8, 9}, Code: []api.Instr{{Op: 10, A: 11, B: 12}, {Op: 13, A: -14, B: -15}}},
			{},
			{Params: 0, Locals: []int{16}, Code: []api.Instr{{Op: 17}}},
		},
		Tables: [][]int{{18, 19}, nil, {20}},
		Strs:   []string{"ab", "", "\x00\xff"},
	}
}

func fullBytes() []byte {
	return whole(
		6, 6, 0, 4, 2, 0, 2, 6,
		6, 2, 4, 8, 10, 2, 12, 6, 14, 16, 18, 4, 20, 22, 24, 26, 27, 29,
		0, 0, 0, 0, 0,
		0, 2, 32, 0, 0, 2, 34, 0, 0,
		6, 4, 36, 38, 0, 2, 40,
		6, 4, 'a', 'b', 0, 4, 0, 255,
	)
}

// The chapter's example: the program without anything.
func TestNothing(t *testing.T) {
	wantBoth(t, api.Prog{}, []byte{72, 89, 49, 0, 0, 0, 0})
	wantBoth(t, api.Prog{Types: []api.Layout{}, Funcs: []api.Func{}, Tables: [][]int{}, Strs: []string{}}, whole(0, 0, 0, 0))
}

// P10.1, P10.2: every part at its place.
func TestFull(t *testing.T) {
	wantBoth(t, full(), fullBytes())
}

// P10.1: one part alone, all others empty, so that none stands in another's place.
func TestParts(t *testing.T) {
	for _, c := range []struct {
		p api.Prog
		b []byte
	}{
		{api.Prog{Types: []api.Layout{{}}}, whole(2, 0, 0, 0, 0)},
		{api.Prog{Types: []api.Layout{{Fields: []int{5}}}}, whole(2, 2, 10, 0, 0, 0)},
		{api.Prog{Funcs: []api.Func{{}}}, whole(0, 2, 0, 0, 0, 0, 0, 0, 0)},
		{api.Prog{Funcs: []api.Func{{Params: 1, Locals: []int{5}}}}, whole(0, 2, 2, 2, 10, 0, 0, 0, 0, 0)},
		{api.Prog{Funcs: []api.Func{{Results: []int{5}}}}, whole(0, 2, 0, 0, 2, 10, 0, 0, 0, 0)},
		{api.Prog{Funcs: []api.Func{{Areas: []int{5}}}}, whole(0, 2, 0, 0, 0, 2, 10, 0, 0, 0)},
		{api.Prog{Funcs: []api.Func{{Code: []api.Instr{{Op: 5, A: 6, B: 7}}}}}, whole(0, 2, 0, 0, 0, 0, 2, 10, 12, 14, 0, 0)},
		{api.Prog{Tables: [][]int{{}}}, whole(0, 0, 2, 0, 0)},
		{api.Prog{Tables: [][]int{{5}}}, whole(0, 0, 2, 2, 10, 0)},
		{api.Prog{Strs: []string{""}}, whole(0, 0, 0, 2, 0)},
		{api.Prog{Strs: []string{"\x05"}}, whole(0, 0, 0, 2, 2, 5)},
	} {
		wantBoth(t, c.p, c.b)
	}
}

// numbers are such with their bytes: at the ends of each length, and of all numbers.
func numbers() map[int][]byte {
	return map[int][]byte{
		0: {0}, -1: {1}, 1: {2}, -2: {3}, 2: {4}, 63: {126}, -64: {127},
		64: {128, 1}, -65: {129, 1}, 127: {254, 1}, -128: {255, 1}, 128: {128, 2}, 8191: {254, 127}, -8192: {255, 127},
		8192: {128, 128, 1}, -8193: {129, 128, 1}, 1 << 20: {128, 128, 128, 1}, 1<<20 - 1: {254, 255, 127}, -1 << 20: {255, 255, 127},
		math.MaxInt32:       {254, 255, 255, 255, 15},
		math.MinInt32:       {255, 255, 255, 255, 15},
		1 << 55:             {128, 128, 128, 128, 128, 128, 128, 128, 1},
		1<<55 - 1:           {254, 255, 255, 255, 255, 255, 255, 127},
		-1 << 55:            {255, 255, 255, 255, 255, 255, 255, 127},
		1<<62 - 1:           {254, 255, 255, 255, 255, 255, 255, 255, 127},
		-1 << 62:            {255, 255, 255, 255, 255, 255, 255, 255, 127},
		1 << 62:             {128, 128, 128, 128, 128, 128, 128, 128, 128, 1},
		-1<<62 - 1:          {129, 128, 128, 128, 128, 128, 128, 128, 128, 1},
		math.MaxInt:         {254, 255, 255, 255, 255, 255, 255, 255, 255, 1},
		math.MinInt:         {255, 255, 255, 255, 255, 255, 255, 255, 255, 1},
		math.MaxInt - 1:     {252, 255, 255, 255, 255, 255, 255, 255, 255, 1},
		math.MinInt + 1:     {253, 255, 255, 255, 255, 255, 255, 255, 255, 1},
		-1000:               {207, 15},
		0x0123456789abcdef:  {222, 183, 222, 154, 241, 217, 162, 163, 2},
		-0x0123456789abcdef: {221, 183, 222, 154, 241, 217, 162, 163, 2},
	}
}

// P10.1, P10.2: numbers, wherever any may stand.
func TestNumbers(t *testing.T) {
	for n, b := range numbers() {
		list := []int{n}
		wantBoth(t, api.Prog{Types: []api.Layout{{Fields: list}}}, slices.Concat(whole(2, 2), b, []byte{0, 0, 0}))
		wantBoth(t, api.Prog{Tables: [][]int{list}}, slices.Concat(whole(0, 0, 2, 2), b, []byte{0}))
		f := api.Func{Locals: list, Results: list, Areas: list, Code: []api.Instr{{Op: 1, A: n, B: n}}}
		wantBoth(t, api.Prog{Funcs: []api.Func{f}}, slices.Concat(whole(0, 2, 0, 2), b, []byte{2}, b, []byte{2}, b, []byte{2, 2}, b, b, []byte{0, 0}))
	}
}

// P10.1: counts and Params are numbers too, of two bytes from 64 on and of three from 8192 on.
func TestCounts(t *testing.T) {
	for _, c := range []struct {
		n int
		b []byte
	}{{63, []byte{126}}, {64, []byte{128, 1}}, {1000, []byte{208, 15}}} {
		zeros := make([]byte, c.n)
		wantBoth(t, api.Prog{Types: make([]api.Layout, c.n)}, slices.Concat(whole(), c.b, zeros, []byte{0, 0, 0}))
		wantBoth(t, api.Prog{Funcs: make([]api.Func, c.n)}, slices.Concat(whole(0), c.b, make([]byte, 5*c.n), []byte{0, 0}))
		wantBoth(t, api.Prog{Tables: make([][]int, c.n)}, slices.Concat(whole(0, 0), c.b, zeros, []byte{0}))
		wantBoth(t, api.Prog{Strs: make([]string, c.n)}, slices.Concat(whole(0, 0, 0), c.b, zeros))
		wantBoth(t, api.Prog{Strs: []string{strings.Repeat("\xf0", c.n)}}, slices.Concat(whole(0, 0, 0, 2), c.b, bytes.Repeat([]byte{0xf0}, c.n)))
		f := api.Func{Params: c.n, Locals: make([]int, c.n)}
		wantBoth(t, api.Prog{Funcs: []api.Func{f}}, slices.Concat(whole(0, 2), c.b, c.b, zeros, []byte{0, 0, 0, 0, 0}))
	}
	instrs := slices.Repeat([]api.Instr{{Op: 1}}, 8192)
	wantBoth(t, api.Prog{Funcs: []api.Func{{Code: instrs}}}, slices.Concat(whole(0, 2, 0, 0, 0, 0, 128, 128, 1), bytes.Repeat([]byte{2, 0, 0}, 8192), []byte{0, 0}))
}

// P10.1, P10.2: a text's bytes are themselves, whatever they are.
func TestTexts(t *testing.T) {
	for b := range 256 {
		wantBoth(t, api.Prog{Strs: []string{string([]byte{byte(b)})}}, whole(0, 0, 0, 2, 2, byte(b)))
	}
	all := make([]byte, 256)
	for b := range all {
		all[b] = byte(b)
	}
	wantBoth(t, api.Prog{Strs: []string{string(all), "HY1", "ä"}}, slices.Concat(whole(0, 0, 0, 6, 128, 4), all, []byte{6, 'H', 'Y', '1', 4, 0xc3, 0xa4}))
}

// P10.1: every operation.
func TestOperations(t *testing.T) {
	for op := api.OpInt; op <= api.OpStr; op++ {
		wantBoth(t, api.Prog{Funcs: []api.Func{{Code: []api.Instr{{Op: op}}}}}, whole(0, 2, 0, 0, 0, 0, 2, byte(2*op), 0, 0, 0, 0))
	}
}

// The second way must itself be right.
func TestSpelled(t *testing.T) {
	if b := spelled(full()); !bytes.Equal(b, fullBytes()) {
		t.Errorf("spelled: %v", b)
	}
	for n, b := range numbers() {
		if got := spell(nil, reflect.ValueOf(n)); !bytes.Equal(got, b) {
			t.Errorf("spell(%d): %v, want %v", n, got, b)
		}
	}
}
