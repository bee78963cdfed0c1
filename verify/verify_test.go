package verify_test

import (
	"fmt"
	"slices"
	"testing"

	"halyard/api"
	"halyard/code"
	"halyard/verify"
)

const (
	word = api.Word
	some = api.Any
)

func ptr(t int) int      { return api.Ptr + 2*t }
func arr(t int) int      { return api.Arr + 2*t }
func stays(kind int) int { return api.Local + kind }

func in(op int, ab ...int) api.Instr {
	i := api.Instr{Op: op}
	if len(ab) > 0 {
		i.A = ab[0]
	}
	if len(ab) > 1 {
		i.B = ab[1]
	}
	return i
}

var halt = in(api.OpHalt)

// fields are those of the world's types.
func fields() [][]int {
	return [][]int{{word}, {word, ptr(1)}, {ptr(1)}, {some}, {arr(0)}, {arr(1), ptr(0), some, word}, {word, word}}
}

// locals are those of the world's function 0, one of each form.
func locals() []int {
	return []int{word, some, ptr(1), arr(1), stays(ptr(1)), stays(arr(1))}
}

// world is a program with something of everything, whose function 0 has this code.
func world(list ...api.Instr) api.Prog {
	zero, one := in(api.OpInt), in(api.OpRet)
	pair := func() []api.Instr { return append(pushed(ptr(1), arr(0)), in(api.OpRet)) }
	p := api.Prog{
		Funcs: []api.Func{
			{Locals: locals(), Areas: []int{1, 0, 5}, Code: list},
			{Params: 1, Locals: []int{word}, Results: []int{word}, Code: []api.Instr{zero, one}},
			{Params: 3, Locals: []int{stays(ptr(1)), some, stays(arr(0)), word}, Results: []int{ptr(1), arr(0)}, Code: pair()},
			{Code: []api.Instr{one}},
			{Params: 1, Locals: []int{word, ptr(3)}, Results: []int{word}, Areas: []int{6}, Code: []api.Instr{in(api.OpGet, 0), one}},
			{Params: 3, Locals: []int{stays(ptr(1)), some, stays(arr(0))}, Results: []int{ptr(1), arr(0)}, Code: pair()},
		},
		Tables: [][]int{{1, 4}, {5, 2, 5}, {3, 0}, {0}},
		Strs:   []string{"", "abc"},
	}
	for _, list := range fields() {
		p.Types = append(p.Types, api.Layout{Fields: list})
	}
	return p
}

// kinds are all that the world has.
func kinds() []int {
	list := []int{word, some}
	for t := range fields() {
		list = append(list, ptr(t), arr(t), stays(ptr(t)), stays(arr(t)))
	}
	return list
}

// pushed: code that puts these kinds.
func pushed(kinds ...int) []api.Instr {
	var list []api.Instr
	for _, k := range kinds {
		if k == word {
			list = append(list, in(api.OpInt, 7))
		} else {
			list = append(list, in(api.OpNil, k))
		}
	}
	return list
}

func told(p api.Prog) string {
	text := fmt.Sprint(p)
	return text[:min(len(text), 600)]
}

// wantFault: all three calls of a program that is at fault.
func wantFault(t *testing.T, p api.Prog, f, at int, e api.Errno) {
	t.Helper()
	if g, i, err := verify.Check(p); g != f || i != at || err != e {
		t.Fatalf("Check: %d at %d, %d; want %d at %d, %d; %s", err, g, i, e, f, at, told(p))
	}
	for _, g := range []int{-1, 0, 1, len(p.Funcs)} {
		if stacks, come, err := verify.Stacks(p, g); len(stacks)+len(come) != 0 || err != e {
			t.Fatalf("Stacks of %d: %v, %v, %d; want %d; %s", g, stacks, come, err, e, told(p))
		}
		if n, err := verify.Size(p, g); n != 0 || err != e {
			t.Fatalf("Size of %d: %d, %d; want %d; %s", g, n, err, e, told(p))
		}
	}
}

func wantFine(t *testing.T, p api.Prog) {
	t.Helper()
	if f, at, e := verify.Check(p); f != 0 || at != 0 || e != api.OK {
		t.Fatalf("Check: %d at %d, %d; want OK at 0, 0; %s", e, f, at, told(p))
	}
}

// never is the stack ahead of an instruction that is not come to.
var never = []int{-1}

// wantStacks: the stacks ahead of all instructions of a function.
func wantStacks(t *testing.T, p api.Prog, f int, want ...[]int) {
	t.Helper()
	wantFine(t, p)
	stacks, come, e := verify.Stacks(p, f)
	if e != api.OK || len(stacks) != len(want) || len(come) != len(want) {
		t.Fatalf("Stacks: %v, %v, %d; want %v; %s", stacks, come, e, want, told(p))
	}
	for at, list := range want {
		if slices.Equal(list, never) {
			if come[at] || len(stacks[at]) != 0 {
				t.Fatalf("Stacks: at %d %v, %v; want it not to be come to", at, stacks[at], come[at])
			}
		} else if !come[at] || !slices.Equal(stacks[at], list) {
			t.Fatalf("Stacks: at %d %v, %v; want %v; %s", at, stacks[at], come[at], list, told(p))
		}
	}
}

func wantSize(t *testing.T, p api.Prog, f, want int) {
	t.Helper()
	if n, e := verify.Size(p, f); n != want || e != api.OK {
		t.Fatalf("Size of %d: %d, %d; want %d; %s", f, n, e, want, told(p))
	}
}

// wantStep: an instruction with these kinds on the stack puts those, or is at fault.
func wantStep(t *testing.T, ahead []int, i api.Instr, behind []int, e api.Errno) {
	t.Helper()
	at := len(ahead)
	p := world(append(pushed(ahead...), i, halt)...)
	if e != api.OK {
		wantFault(t, p, 0, at, e)
		return
	}
	wantFine(t, p)
	stacks, come, e := verify.Stacks(p, 0)
	if e != api.OK || !come[at+1] || !slices.Equal(stacks[at], ahead) || !slices.Equal(stacks[at+1], behind) {
		t.Fatalf("%v behind %v: %v, %v, %d; want %v", i, ahead, stacks, come, e, behind)
	}
	wantSize(t, p, 0, len(locals())+2+1+4+max(len(ahead), len(behind)))
}

// The chapter's examples.
func TestExamples(t *testing.T) {
	alone := func(list ...api.Instr) api.Prog { return api.Prog{Funcs: []api.Func{{Code: list}}} }
	p := alone(in(api.OpInt, 5), in(api.OpOut), halt)
	wantStacks(t, p, 0, nil, []int{word}, nil)
	wantSize(t, p, 0, 1)
	wantFault(t, alone(in(api.OpOut)), 0, 0, api.ErrStack)
	wantFault(t, alone(in(api.OpInt), in(api.OpJump, 0)), 0, 1, api.ErrStack)
	wantFault(t, alone(in(api.OpInt)), 0, 0, api.ErrJump)
}

// The world itself must be right, with all its functions.
func TestWorld(t *testing.T) {
	p := world(halt)
	wantStacks(t, p, 0, nil)
	wantStacks(t, p, 1, nil, []int{word})
	wantStacks(t, p, 2, nil, []int{ptr(1)}, []int{ptr(1), arr(0)})
	wantStacks(t, p, 3, nil)
	wantStacks(t, p, 4, nil, []int{word})
	wantStacks(t, p, 5, nil, []int{ptr(1)}, []int{ptr(1), arr(0)})
	for f, want := range []int{6 + 2 + 1 + 4, 1 + 1, 4 + 2, 0, 2 + 2 + 1, 3 + 2} {
		wantSize(t, p, f, want)
	}
}

// P11.2: which stacks there are, which instructions are come to, and the Size.
func TestStacks(t *testing.T) {
	p := world(
		in(api.OpNew, 1), in(api.OpDup), in(api.OpLoad, 0), in(api.OpIf, 6),
		in(api.OpLoad, 1), in(api.OpJump, 7),
		in(api.OpLoad, 1),
		in(api.OpSet, 2), halt,
		in(api.OpOut), halt, in(api.OpNil, -9))
	one := []int{ptr(1)}
	wantStacks(t, p, 0, nil, one, []int{ptr(1), ptr(1)}, []int{ptr(1), word}, one, one, one, one, nil, never, never, never)
	wantSize(t, p, 0, 6+7+2)
}

// P11.2: an area's fields are counted as often as it stands there, locals and stacks beside them.
func TestSize(t *testing.T) {
	two := []int{word, some, word}
	for _, c := range []struct {
		fn   api.Func
		want int
	}{
		{api.Func{Code: []api.Instr{halt}}, 0},
		{api.Func{Locals: two, Code: []api.Instr{halt}}, 3},
		{api.Func{Areas: []int{5}, Code: []api.Instr{halt}}, 4},
		{api.Func{Areas: []int{5, 1, 5, 5}, Code: []api.Instr{halt}}, 14},
		{api.Func{Locals: two, Areas: []int{0, 6}, Code: append(pushed(word, some, ptr(3), word), in(api.OpPop), in(api.OpPop), halt)}, 3 + 1 + 2 + 4},
		{api.Func{Code: append([]api.Instr{in(api.OpJump, 3), in(api.OpInt), in(api.OpInt)}, pushed(some)[0], halt)}, 1},
		{api.Func{Code: []api.Instr{in(api.OpInt), in(api.OpTrap)}}, 1},
		{api.Func{Code: []api.Instr{in(api.OpInt), in(api.OpCall, 3), in(api.OpIf, 0), halt}}, 1},
	} {
		p := world(halt)
		p.Funcs[0] = c.fn
		wantFine(t, p)
		wantSize(t, p, 0, c.want)
	}
	wantSize(t, world(append(pushed(ptr(1), some, arr(0)), in(api.OpCall, 2), in(api.OpPop), in(api.OpPop), halt)...), 0, 13+3)
	wantSize(t, world(in(api.OpArea, 2), in(api.OpPop), halt), 0, 13+1)
}

// P11.2: ErrNone, where there is no such function, if the program is sound.
func TestNoFunction(t *testing.T) {
	p := world(halt)
	for _, f := range []int{-1, 6, 7, 1 << 32, 1<<63 - 1, -1 << 63} {
		if stacks, come, e := verify.Stacks(p, f); len(stacks)+len(come) != 0 || e != api.ErrNone {
			t.Errorf("Stacks of %d: %v, %v, %d", f, stacks, come, e)
		}
		if n, e := verify.Size(p, f); n != 0 || e != api.ErrNone {
			t.Errorf("Size of %d: %d, %d", f, n, e)
		}
	}
}

// P11.2: a fault in one function is an error of all of them, told without its place.
func TestFaultElsewhere(t *testing.T) {
	for f := 1; f < 6; f++ {
		p := world(halt)
		p.Funcs[f].Code = []api.Instr{in(api.OpInt), in(api.OpPop), in(api.OpOut)}
		wantFault(t, p, f, 2, api.ErrStack)
	}
}

// P2: a program that comes back from its bytes is judged as before.
func TestThereAndBack(t *testing.T) {
	for _, p := range []api.Prog{world(halt), world(in(api.OpOut)), world(in(api.OpNew, 7)), world()} {
		b, _ := code.Encode(p)
		q, e := code.Decode(b)
		f, at, want := verify.Check(p)
		if g, i, got := verify.Check(q); e != api.OK || g != f || i != at || got != want {
			t.Errorf("%d: %d at %d, %d; want %d at %d, %d", e, got, g, i, want, f, at)
		}
	}
}
