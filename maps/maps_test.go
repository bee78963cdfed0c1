package maps_test

import (
	"fmt"
	"slices"
	"testing"

	"halyard/api"
	"halyard/maps"
)

const (
	word = api.Word
	some = api.Any
)

func ptr(t int) int      { return api.Ptr + 2*t }
func arr(t int) int      { return api.Arr + 2*t }
func stays(kind int) int { return api.Local + kind }

func in(op int, ab ...int) api.Instr {
	i := api.Instr{Op: op}
	if len(ab) > 0 {
		i.A = ab[0]
	}
	if len(ab) > 1 {
		i.B = ab[1]
	}
	return i
}

var halt = in(api.OpHalt)

// fields are those of the world's types.
func fields() [][]int {
	return [][]int{{word}, {word, ptr(1)}, {ptr(1)}, {some}, {arr(0)}, {arr(1), ptr(0), some, word}, {word, word}}
}

// locals are those of the world's function 0, one of each form.
func locals() []int {
	return []int{word, some, ptr(1), arr(1), stays(ptr(1)), stays(arr(1))}
}

// world is a program with something of everything, whose function 0 has this code.
func world(list ...api.Instr) api.Prog {
	one := in(api.OpRet)
	pair := func() []api.Instr { return append(pushed(ptr(1), arr(0)), one) }
	p := api.Prog{
		Funcs: []api.Func{
			{Locals: locals(), Areas: []int{1, 0, 5}, Code: list},
			{Params: 1, Locals: []int{word}, Results: []int{word}, Code: []api.Instr{in(api.OpInt), one}},
			{Params: 3, Locals: []int{stays(ptr(1)), some, stays(arr(0)), word}, Results: []int{ptr(1), arr(0)}, Code: pair()},
			{Code: []api.Instr{one}},
			{Params: 1, Locals: []int{word, ptr(3)}, Results: []int{word}, Areas: []int{6}, Code: []api.Instr{in(api.OpGet, 0), one}},
			{Params: 3, Locals: []int{stays(ptr(1)), some, stays(arr(0))}, Results: []int{ptr(1), arr(0)}, Code: pair()},
		},
		Tables: [][]int{{1, 4}, {5, 2, 5}, {3, 0}, {0}},
		Strs:   []string{"", "abc"},
	}
	for _, list := range fields() {
		p.Types = append(p.Types, api.Layout{Fields: list})
	}
	return p
}

// plain: the world without locals.
func plain(list ...api.Instr) api.Prog {
	p := world(list...)
	p.Funcs[0].Locals = nil
	return p
}

// pushed: code that puts these kinds.
func pushed(kinds ...int) []api.Instr {
	var list []api.Instr
	for _, k := range kinds {
		if k == word {
			list = append(list, in(api.OpInt, 7))
		} else {
			list = append(list, in(api.OpNil, k))
		}
	}
	return list
}

// bits: a text of 1 and 0 as a list.
func bits(text string) []bool {
	list := make([]bool, len(text))
	for i := range text {
		list[i] = text[i] == '1'
	}
	return list
}

// shown: a list as a text of 1 and 0.
func shown(list []bool) string {
	text := []byte{}
	for _, is := range list {
		if is {
			text = append(text, '1')
		} else {
			text = append(text, '0')
		}
	}
	return string(text)
}

func brief(text string) string { return text[:min(len(text), 600)] }

// told: maps as a text each: where, the locals, the stack.
func told(list []api.Map) []string {
	var texts []string
	for _, m := range list {
		texts = append(texts, fmt.Sprintf("%d %s %s", m.At, shown(m.Locals), shown(m.Stack)))
	}
	return texts
}

// wantOf: the maps of a function, each as a text.
func wantOf(t *testing.T, p api.Prog, f int, want ...string) {
	t.Helper()
	got, e := maps.Of(p, f)
	if e != api.OK || !slices.Equal(told(got), want) {
		t.Fatalf("Of %d: %s, %d; want %s; %s", f, brief(fmt.Sprint(told(got))), e, brief(fmt.Sprint(want)), brief(fmt.Sprint(p)))
	}
}

// wantLayout: of a type, as a text.
func wantLayout(t *testing.T, p api.Prog, n int, want string) {
	t.Helper()
	if got, e := maps.Layout(p, n); e != api.OK || shown(got) != want {
		t.Fatalf("Layout of %d: %s, %d; want %s", n, shown(got), e, want)
	}
}

// wantError: both calls, of a program that is at fault.
func wantError(t *testing.T, p api.Prog, e api.Errno) {
	t.Helper()
	for _, n := range []int{-1, 0, 1, len(p.Funcs), len(p.Types)} {
		if list, err := maps.Of(p, n); len(list) != 0 || err != e {
			t.Fatalf("Of %d: %v, %d; want %d; %s", n, list, err, e, brief(fmt.Sprint(p)))
		}
		if list, err := maps.Layout(p, n); len(list) != 0 || err != e {
			t.Fatalf("Layout of %d: %v, %d; want %d; %s", n, list, err, e, brief(fmt.Sprint(p)))
		}
	}
}

// The document's numbers: a program whose last instruction isn't come to.
func TestExample(t *testing.T) {
	p := api.Prog{Types: []api.Layout{{Fields: []int{0, 2, 1}}}, Funcs: []api.Func{{Locals: []int{0, 2}, Code: []api.Instr{in(api.OpInt), in(api.OpNew), in(api.OpNew), in(api.OpBox), halt, in(api.OpNew)}}}}
	wantOf(t, p, 0, "1 01 0", "2 01 01", "3 01 011")
	wantLayout(t, p, 0, "011")
}

// P19.1: each of the six has a map, with what it takes still on the stack; what it puts is on the next one's.
func TestSafepoints(t *testing.T) {
	last := in(api.OpNew)
	wantOf(t, plain(in(api.OpNew, 1), last, halt), 0, "0  ", "1  1")
	wantOf(t, plain(in(api.OpInt), in(api.OpMake, 0), last, halt), 0, "1  0", "2  1")
	wantOf(t, plain(in(api.OpNil, ptr(1)), in(api.OpBox), last, halt), 0, "1  1", "2  1")
	wantOf(t, plain(in(api.OpStr, 1, 0), last, halt), 0, "0  ", "1  1")
	wantOf(t, plain(in(api.OpCall, 3), last, halt), 0, "0  ", "1  ")
	wantOf(t, plain(in(api.OpInt), in(api.OpCall, 1), last, halt), 0, "1  0", "2  0")
	wantOf(t, plain(append(pushed(ptr(1), some, arr(0)), in(api.OpCall, 2), last, halt)...), 0, "3  111", "4  11")
	wantOf(t, plain(in(api.OpInt), in(api.OpDyn, 2), last, halt), 0, "1  0", "2  ")
	wantOf(t, plain(in(api.OpInt), in(api.OpInt), in(api.OpDyn, 0), last, halt), 0, "2  00", "3  0")
	wantOf(t, plain(append(pushed(word, ptr(1), some, arr(0), word), in(api.OpDyn, 1), last, halt)...), 0, "5  01110", "6  011")
}

// P19.1: no other instruction has a map; what stands on the stack behind each one is told by the map behind it.
func TestOthers(t *testing.T) {
	last := in(api.OpNew)
	for _, c := range []struct {
		ahead  []int
		i      api.Instr
		behind string
	}{
		{nil, in(api.OpInt, 9), "0"},
		{nil, in(api.OpNil, some), "1"},
		{nil, in(api.OpNil, ptr(1)), "1"},
		{nil, in(api.OpNil, stays(arr(1))), "1"},
		{[]int{word}, in(api.OpPop), ""},
		{[]int{word, some}, in(api.OpPop), "0"},
		{[]int{some, word}, in(api.OpPop), "1"},
		{[]int{word}, in(api.OpDup), "00"},
		{[]int{arr(0)}, in(api.OpDup), "11"},
		{[]int{some, word, word}, in(api.OpArith, api.Lt), "10"},
		{[]int{word, some, some}, in(api.OpSame), "00"},
		{[]int{some, ptr(0), stays(ptr(0))}, in(api.OpSame), "10"},
		{[]int{some}, in(api.OpJump, 2), "1"},
		{[]int{some, word}, in(api.OpIf, 3), "1"},
		{nil, in(api.OpArea, 1), "1"},
		{[]int{ptr(5)}, in(api.OpLoad, 0), "1"},
		{[]int{ptr(5)}, in(api.OpLoad, 1), "1"},
		{[]int{ptr(5)}, in(api.OpLoad, 2), "1"},
		{[]int{ptr(5)}, in(api.OpLoad, 3), "0"},
		{[]int{stays(ptr(1))}, in(api.OpLoad, 0), "0"},
		{[]int{stays(ptr(1))}, in(api.OpLoad, 1), "1"},
		{[]int{word, ptr(1), word}, in(api.OpStore, 0), "0"},
		{[]int{some, stays(ptr(1)), ptr(1)}, in(api.OpStore, 1), "1"},
		{[]int{word, ptr(5)}, in(api.OpAddr, 3, 0), "01"},
		{[]int{word, arr(5), word}, in(api.OpElem), "01"},
		{[]int{some, arr(5)}, in(api.OpLen), "10"},
		{[]int{some, stays(arr(5))}, in(api.OpLen), "10"},
		{[]int{some, some}, in(api.OpTag), "10"},
		{[]int{word, some}, in(api.OpUnbox, 0), "01"},
		{[]int{some, word}, in(api.OpOut), "1"},
		{[]int{some, word}, in(api.OpPut), "1"},
	} {
		at := len(c.ahead)
		wantOf(t, plain(append(pushed(c.ahead...), c.i, last, halt)...), 0, fmt.Sprintf("%d  %s", at+1, c.behind))
	}
	for _, i := range []api.Instr{halt, in(api.OpRet)} {
		wantOf(t, plain(i, last, halt), 0)
	}
	wantOf(t, plain(in(api.OpInt), in(api.OpTrap, 3), last, halt), 0)
}

// P19.1: what is found by a pointer's type: the fields behind OpLoad, what OpAddr and OpElem name, with Local and without.
func TestTypesOfPointers(t *testing.T) {
	last := in(api.OpNew)
	load := func(a int) api.Instr { return in(api.OpLoad, a) }
	for _, kind := range []int{ptr(2), stays(ptr(2))} {
		wantOf(t, plain(in(api.OpNil, kind), in(api.OpDup), load(0), load(1), load(1), load(0), last, halt), 0, "6  10")
		wantOf(t, plain(in(api.OpNil, kind), in(api.OpAddr, 0, 2), in(api.OpAddr, 0, 2), load(0), load(0), last, halt), 0, "5  0")
	}
	for _, kind := range []int{arr(5), stays(arr(5))} {
		wantOf(t, plain(in(api.OpNil, kind), in(api.OpInt), in(api.OpElem), load(3), last, halt), 0, "4  0")
		wantOf(t, plain(in(api.OpNil, kind), in(api.OpInt), in(api.OpElem), load(0), in(api.OpInt), in(api.OpElem), load(0), last, halt), 0, "7  0")
		wantOf(t, plain(in(api.OpNil, kind), in(api.OpInt), in(api.OpElem), in(api.OpAddr, 3, 0), load(0), last, halt), 0, "5  0")
	}
	for a, want := range []string{"0", "1"} {
		wantOf(t, plain(in(api.OpArea, 0), load(a), last, halt), 0, "2  "+want)
		wantOf(t, plain(in(api.OpNew, 1), load(a), last, halt), 0, "0  ", "2  "+want)
		wantOf(t, plain(in(api.OpNil, some), in(api.OpUnbox, 1), load(a), last, halt), 0, "3  "+want)
		wantOf(t, plain(in(api.OpInt), in(api.OpMake, 1), in(api.OpInt), in(api.OpElem), load(a), last, halt), 0, "1  0", "5  "+want)
		wantOf(t, world(in(api.OpGet, 2), load(a), last, halt), 0, "2 011111 "+want)
		wantOf(t, world(in(api.OpGet, 4), load(a), last, halt), 0, "2 011111 "+want)
	}
	wantOf(t, plain(in(api.OpStr, 0, 0), in(api.OpInt), in(api.OpElem), load(0), last, halt), 0, "0  ", "4  0")
	texts := plain(in(api.OpStr, 2, 0), in(api.OpInt), in(api.OpElem), load(0), last, halt)
	texts.Strs = append(texts.Strs, "x")
	wantOf(t, texts, 0, "0  ", "4  0")
	results := append(pushed(ptr(1), some, arr(0)), in(api.OpCall, 2), in(api.OpInt), in(api.OpElem), load(0), last, halt)
	wantOf(t, plain(results...), 0, "3  111", "7  10")
	results = append(pushed(ptr(1), some, arr(0)), in(api.OpCall, 2), in(api.OpPop), load(1), load(0), last, halt)
	wantOf(t, plain(results...), 0, "3  111", "7  0")
}

// P19.1: the locals of each kind, at each map; OpGet puts the local's kind, and OpSet takes it.
func TestLocals(t *testing.T) {
	last := in(api.OpNew)
	for a, kind := range locals() {
		want := "1"
		if kind == word {
			want = "0"
		}
		wantOf(t, world(in(api.OpGet, a), last, in(api.OpPop), in(api.OpSet, a), last, halt), 0, "1 011111 "+want, "4 011111 ")
		p := plain(last, halt)
		p.Funcs[0].Locals = []int{kind}
		wantOf(t, p, 0, "0 "+want+" ")
		p.Funcs[0].Locals = []int{word, kind, some, kind}
		wantOf(t, p, 0, "0 0"+want+"1"+want+" ")
	}
	wantOf(t, plain(last, halt), 0, "0  ")
}

// P19.1: parameters are locals, and function 0 is no other than the others.
func TestFunctions(t *testing.T) {
	p := world(halt)
	safe := []api.Instr{in(api.OpNew), halt}
	for f := range p.Funcs {
		p.Funcs[f].Code = safe
	}
	for f, want := range []string{"0 011111 ", "0 0 ", "0 1110 ", "0  ", "0 01 ", "0 111 "} {
		wantOf(t, p, f, want)
	}
	p.Funcs[1].Code = []api.Instr{halt}
	wantOf(t, p, 1)
	p.Funcs[1].Code = []api.Instr{in(api.OpGet, 0), in(api.OpCall, 1), in(api.OpCall, 1), in(api.OpRet)}
	wantOf(t, p, 1, "1 0 0", "2 0 0")
}

// P19.1: a function without safepoints has no maps.
func TestWithoutSafepoints(t *testing.T) {
	wantOf(t, world(halt), 0)
	wantOf(t, world(in(api.OpInt), in(api.OpOut), in(api.OpJump, 0)), 0)
	wantOf(t, world(halt, in(api.OpNew), in(api.OpCall, 3)), 0)
	for f := 1; f < 6; f++ {
		wantOf(t, world(in(api.OpNew), halt), f)
	}
}

// P19.1: just those that are come to, in the order in which they stand, whatever the way through them; each once.
func TestComeTo(t *testing.T) {
	last := in(api.OpNew)
	wantOf(t, plain(in(api.OpJump, 2), last, last, halt, last), 0, "2  ")
	wantOf(t, plain(in(api.OpInt), in(api.OpIf, 4), last, halt, last, last, halt), 0, "2  ", "4  ", "5  1")
	wantOf(t, plain(in(api.OpInt), in(api.OpTrap), last), 0)
	wantOf(t, plain(in(api.OpJump, 5), last, halt, last, in(api.OpJump, 1), in(api.OpNil, some), in(api.OpJump, 3)), 0, "1  11", "3  1")
	round := []api.Instr{last, in(api.OpPop), in(api.OpInt), in(api.OpIf, 0), last, in(api.OpBox), in(api.OpPop), in(api.OpJump, 0)}
	wantOf(t, plain(round...), 0, "0  ", "4  ", "5  1")
	meet := []api.Instr{in(api.OpInt), in(api.OpIf, 5), in(api.OpNew, 1), in(api.OpInt), in(api.OpJump, 7), in(api.OpNil, ptr(1)), in(api.OpInt), last, halt}
	wantOf(t, plain(meet...), 0, "2  ", "7  10")
	never := []api.Instr{in(api.OpJump, 3), in(api.OpPop), in(api.OpCall, 99), last, halt, in(api.OpDyn, -1)}
	wantOf(t, plain(never...), 0, "3  ")
}

// P19.1: each kind on the stack, alone, lowest, in the middle and on top.
func TestStacks(t *testing.T) {
	kinds := append(locals(), ptr(0), arr(0), ptr(6), arr(6), stays(ptr(0)), stays(arr(6)))
	for _, kind := range kinds {
		want := "1"
		if kind == word {
			want = "0"
		}
		list := []int{kind, word, kind, some, kind}
		for n := range list {
			text := (want + "0" + want + "1" + want)[:n+1]
			wantOf(t, plain(append(pushed(list[:n+1]...), in(api.OpNew), halt)...), 0, fmt.Sprintf("%d  %s", n+1, text))
		}
	}
}

// P19.2: types of each sort, with one field and several.
func TestLayouts(t *testing.T) {
	p := world(halt)
	for n, want := range []string{"0", "01", "1", "1", "1", "1110", "00"} {
		wantLayout(t, p, n, want)
	}
	for n := range fields() {
		for _, want := range []string{"1", "0"} {
			p.Types[0].Fields = []int{ptr(n)}
			if want == "0" {
				p.Types[0].Fields = []int{word}
			}
			p.Types[6].Fields = append([]int{arr(n), word}, p.Types[0].Fields...)
			p.Strs = nil
			wantLayout(t, p, 0, want)
			wantLayout(t, p, 6, "10"+want)
		}
	}
	p = api.Prog{Types: []api.Layout{{Fields: []int{some, word, arr(0), ptr(0), word}}}, Funcs: []api.Func{{Code: []api.Instr{halt}}}}
	wantLayout(t, p, 0, "10110")
}
