package verify_test

import (
	"slices"
	"strings"
	"testing"

	"halyard/api"
	"halyard/verify"
)

// All limits at once: the last type's kinds, the last local, area, function, table and text, and one beyond each.
func TestLimits(t *testing.T) {
	last := api.MaxTypes - 1
	p := api.Prog{
		Types:  slices.Repeat([]api.Layout{{Fields: []int{word}}}, api.MaxTypes),
		Funcs:  slices.Repeat([]api.Func{{Code: []api.Instr{in(api.OpRet)}}}, api.MaxFuncs),
		Tables: slices.Repeat([][]int{{1}}, api.MaxTypes),
		Strs:   slices.Repeat([]string{strings.Repeat("b", api.MaxLen)}, api.MaxTypes),
	}
	p.Types[0].Fields = slices.Repeat([]int{arr(last)}, api.MaxLocals)
	p.Tables[last] = slices.Repeat([]int{api.MaxFuncs - 1}, api.MaxFuncs)
	p.Funcs[0].Locals = slices.Repeat([]int{stays(arr(last))}, api.MaxLocals)
	p.Funcs[0].Areas = slices.Repeat([]int{last}, api.MaxLocals)
	step := func(e api.Errno, ahead []int, i api.Instr, behind ...int) {
		t.Helper()
		q := p
		q.Funcs = slices.Clone(p.Funcs)
		q.Funcs[0].Code = append(pushed(ahead...), i, halt)
		if f, at, err := verify.Check(q); err != e || f != 0 || e != api.OK && at != len(ahead) {
			t.Errorf("%v: %d at %d, %d; want %d", i, err, f, at, e)
		}
		if stacks, _, _ := verify.Stacks(q, 0); e == api.OK && !slices.Equal(stacks[len(ahead)+1], behind) {
			t.Errorf("%v: %v; want %v", i, stacks[len(ahead)+1], behind)
		}
	}
	step(api.OK, nil, in(api.OpGet, api.MaxLocals-1), stays(arr(last)))
	step(api.ErrRange, nil, in(api.OpGet, api.MaxLocals))
	step(api.OK, nil, in(api.OpArea, api.MaxLocals-1), stays(ptr(last)))
	step(api.ErrRange, nil, in(api.OpArea, api.MaxLocals))
	step(api.OK, nil, in(api.OpNew, last), ptr(last))
	step(api.ErrRange, nil, in(api.OpNew, last+1))
	step(api.OK, []int{ptr(0)}, in(api.OpLoad, api.MaxLocals-1), arr(last))
	step(api.ErrRange, []int{ptr(0)}, in(api.OpLoad, api.MaxLocals))
	step(api.OK, nil, in(api.OpCall, api.MaxFuncs-1))
	step(api.ErrRange, nil, in(api.OpCall, api.MaxFuncs))
	step(api.OK, []int{word}, in(api.OpDyn, last))
	step(api.ErrRange, []int{word}, in(api.OpDyn, last+1))
	step(api.OK, nil, in(api.OpStr, last, last), arr(last))
	step(api.ErrRange, nil, in(api.OpStr, last+1, last))
	step(api.ErrRange, nil, in(api.OpStr, last, last+1))
	for _, k := range []int{ptr(last), arr(last), stays(ptr(last)), stays(arr(last))} {
		step(api.OK, nil, in(api.OpNil, k), k)
		step(api.ErrRange, nil, in(api.OpNil, k+2))
	}
	p.Funcs[0].Code = []api.Instr{halt}
	wantSize(t, p, 0, 2*api.MaxLocals)
	p.Funcs[0].Areas = slices.Repeat([]int{0}, api.MaxLocals)
	wantSize(t, p, 0, api.MaxLocals+api.MaxLocals*api.MaxLocals)
}

// A function of as many instructions as may be, the last of which is the one at fault, or comes back to the first.
func TestLongCode(t *testing.T) {
	list := slices.Repeat([]api.Instr{in(api.OpInt), in(api.OpOut)}, api.MaxCode/2)
	wantFault(t, world(list...), 0, api.MaxCode-1, api.ErrJump)
	list[api.MaxCode-1] = in(api.OpTrap)
	wantFine(t, world(list...))
	list[api.MaxCode-1] = in(api.OpIf, 0)
	wantFault(t, world(list...), 0, api.MaxCode-1, api.ErrJump)
	list[api.MaxCode-2] = in(api.OpJump, api.MaxCode-1)
	list[api.MaxCode-1] = in(api.OpJump, 0)
	wantFine(t, world(list...))
	list[api.MaxCode-2].A = api.MaxCode
	wantFault(t, world(list...), 0, api.MaxCode-2, api.ErrJump)
}

// A stack that grows to the end of the longest code: all lists together would have 2^31 kinds.
func TestDeepStack(t *testing.T) {
	list := slices.Repeat([]api.Instr{in(api.OpInt)}, api.MaxCode)
	list[api.MaxCode-1] = halt
	wantFine(t, world(list...))
	wantSize(t, world(list...), 0, 13+api.MaxCode-1)
	list[api.MaxCode-1] = in(api.OpJump, api.MaxCode-2)
	wantFault(t, world(list...), 0, api.MaxCode-1, api.ErrStack)
}

// A deep stack, written out.
func TestDeepStacks(t *testing.T) {
	const n = 3000
	p := world(append(slices.Concat(slices.Repeat(pushed(word, some, stays(ptr(6))), n/3), slices.Repeat([]api.Instr{in(api.OpPop)}, n)), halt)...)
	stacks, come, e := verify.Stacks(p, 0)
	if e != api.OK || len(stacks) != 2*n+1 || slices.Contains(come, false) {
		t.Fatal(len(stacks), e)
	}
	whole := slices.Repeat([]int{word, some, stays(ptr(6))}, n/3)
	for at, list := range stacks {
		if !slices.Equal(list, whole[:min(at, 2*n-at)]) {
			t.Fatalf("at %d: %d kinds", at, len(list))
		}
	}
}

// wide: a program with functions that put as many results as may be, of all kinds, and one that takes them all.
func wide(list ...api.Instr) api.Prog {
	results := slices.Repeat([]int{word, some, ptr(1), arr(6)}, api.MaxLocals/4)
	p := world(list...)
	give := api.Func{Results: results, Code: []api.Instr{halt}}
	p.Funcs = append(p.Funcs, give, api.Func{Params: len(results), Locals: results, Code: []api.Instr{in(api.OpRet)}})
	less := give
	less.Results = results[:len(results)-4]
	p.Funcs = append(p.Funcs, less, api.Func{Params: 4, Locals: results[:4], Results: results, Code: []api.Instr{halt}})
	return p
}

// Stacks that are far deeper than could be written out: each call puts 4096 kinds.
func TestVeryDeepStack(t *testing.T) {
	many, take := in(api.OpCall, 6), in(api.OpCall, 7)
	list := slices.Repeat([]api.Instr{many}, api.MaxCode)
	list[api.MaxCode-1] = halt
	wantFine(t, wide(list...))
	wantSize(t, wide(list...), 0, 13+(api.MaxCode-1)*api.MaxLocals)
	const n = 1000
	list = slices.Concat(slices.Repeat([]api.Instr{many}, n), slices.Repeat([]api.Instr{take}, n), []api.Instr{halt})
	wantFine(t, wide(list...))
	wantSize(t, wide(list...), 0, 13+n*api.MaxLocals)
	list[2*n] = take
	wantFault(t, wide(list...), 0, 2*n, api.ErrStack)
	list[2*n-1] = in(api.OpPop)
	wantFault(t, wide(list...), 0, 2*n, api.ErrStack)
	list[n] = in(api.OpPop)
	wantFault(t, wide(list...), 0, n+1, api.ErrKind)
}

// Two very deep stacks, made in two ways, meet: they are the same, or differ by one kind far below.
func TestVeryDeepMeet(t *testing.T) {
	const n = 1000
	four := pushed(word, some, ptr(1), arr(6))
	first := slices.Concat(four, slices.Repeat([]api.Instr{in(api.OpCall, 6)}, n))
	again := slices.Concat(slices.Repeat(slices.Concat([]api.Instr{in(api.OpCall, 8)}, four), n), four)
	meet := func(a, b []api.Instr) []api.Instr {
		return slices.Concat([]api.Instr{in(api.OpInt), in(api.OpIf, 3+len(a))}, a, []api.Instr{in(api.OpJump, 3+len(a)+len(b))}, b, []api.Instr{halt})
	}
	wantFine(t, wide(meet(first, again)...))
	wantFine(t, wide(meet(again, first)...))
	wantSize(t, wide(meet(first, again)...), 0, 13+n*api.MaxLocals+4)
	other := slices.Clone(first)
	other[3] = in(api.OpNil, stays(arr(6)))
	wantFault(t, wide(meet(other, again)...), 0, 2+len(other)+len(again), api.ErrStack)
	wantFault(t, wide(meet(again, other)...), 0, 2+len(other)+len(again), api.ErrStack)
}

// Calls that take and put as many kinds as may be: nothing of one stack gets into another's.
func TestWideCalls(t *testing.T) {
	results := slices.Repeat([]int{word, some, ptr(1), arr(6)}, api.MaxLocals/4)
	p := wide(in(api.OpInt), in(api.OpCall, 6), in(api.OpPop), in(api.OpInt), in(api.OpPop), in(api.OpNil, arr(6)), in(api.OpCall, 9), in(api.OpCall, 7), halt)
	short := results[:len(results)-1]
	at := func(lists ...[]int) []int { return append([]int{word}, slices.Concat(lists...)...) }
	wantStacks(t, p, 0, nil, at(), at(results), at(short), at(short, []int{word}), at(short), at(results), at(short[:len(short)-3], results), at(short[:len(short)-3]))
	wantSize(t, p, 0, 13+1+2*len(results)-4)
	for i := range results {
		q := wide(in(api.OpCall, 6), in(api.OpCall, 7), halt)
		q.Funcs[6].Results = slices.Clone(results)
		q.Funcs[6].Results[i] = arr(5)
		if f, at, e := verify.Check(q); f != 0 || at != 1 || e != api.ErrKind {
			t.Fatalf("kind %d: %d at %d, %d", i, e, f, at)
		}
	}
}

// Many that meet at one place, and many places that come back to it.
func TestManyMeet(t *testing.T) {
	const n = api.MaxCode/2 - 1
	var list []api.Instr
	for range n {
		list = append(list, in(api.OpInt), in(api.OpIf, 2*n))
	}
	wantFine(t, world(append(list, halt, halt)...))
	wantFault(t, world(append(list, in(api.OpOut), halt)...), 0, 2*n, api.ErrStack)
	for i := range n {
		list[2*i+1].A = 2 * i
	}
	wantFine(t, world(append(list, halt, halt)...))
	list[2*n-1].A = 1
	wantFault(t, world(append(list, halt, halt)...), 0, 2*n-1, api.ErrStack)
}

// Instructions that are looked at from the last on: each goes back to the one before it.
func TestBackwards(t *testing.T) {
	list := []api.Instr{in(api.OpJump, api.MaxCode-1), halt}
	for i := 2; i < api.MaxCode; i++ {
		list = append(list, in(api.OpJump, i-1))
	}
	wantFine(t, world(list...))
	list[1] = in(api.OpOut)
	list[5000] = in(api.OpNew, 9)
	wantFault(t, world(list...), 0, 5000, api.ErrRange)
}
