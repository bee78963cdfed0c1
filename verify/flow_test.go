package verify_test

import (
	"math"
	"slices"
	"testing"

	"halyard/api"
)

// P11.1: OpJump goes on at A alone, ahead or back, at itself too.
func TestJump(t *testing.T) {
	wantStacks(t, world(in(api.OpJump, 0)), 0, nil)
	wantStacks(t, world(in(api.OpJump, 0, -9), in(api.OpOut)), 0, nil, never)
	wantStacks(t, world(in(api.OpJump, 2), in(api.OpOut), halt), 0, nil, never, nil)
	wantStacks(t, world(in(api.OpJump, 2), halt, in(api.OpJump, 1)), 0, nil, nil, nil)
	wantStacks(t, world(in(api.OpInt), in(api.OpJump, 2), in(api.OpOut), in(api.OpJump, 0)), 0, nil, []int{word}, []int{word}, nil)
	wantStacks(t, world(in(api.OpInt), in(api.OpJump, 1)), 0, nil, []int{word})
	for _, a := range append(ends(), 2, 3) {
		wantFault(t, world(in(api.OpInt), in(api.OpJump, a)), 0, 1, api.ErrJump)
		wantFault(t, world(in(api.OpJump, a), halt), 0, 0, api.ErrJump)
	}
	wantFault(t, world(in(api.OpInt), in(api.OpJump, 0)), 0, 1, api.ErrStack)
	wantFault(t, world(in(api.OpNil, some), in(api.OpInt), in(api.OpJump, 1)), 0, 2, api.ErrStack)
}

// P11.1: OpIf goes on at the next one and at A.
func TestIf(t *testing.T) {
	wantStacks(t, world(in(api.OpInt), in(api.OpIf, 3, -9), halt, halt), 0, nil, []int{word}, nil, nil)
	wantStacks(t, world(in(api.OpInt), in(api.OpIf, 2), halt), 0, nil, []int{word}, nil)
	wantStacks(t, world(in(api.OpInt), in(api.OpIf, 0), halt), 0, nil, []int{word}, nil)
	wantStacks(t, world(append(pushed(some, word), in(api.OpIf, 4), halt, in(api.OpTag), in(api.OpOut), halt)...), 0, nil, []int{some}, []int{some, word}, []int{some}, []int{some}, []int{word}, nil)
	wantFault(t, world(in(api.OpIf, 1), halt), 0, 0, api.ErrStack)
	for _, k := range kinds()[1:] {
		wantFault(t, world(append(pushed(k), in(api.OpIf, 0), halt)...), 0, 1, api.ErrKind)
		wantFault(t, world(append(pushed(word, k), in(api.OpIf, 0), halt)...), 0, 2, api.ErrKind)
	}
	for _, a := range append(ends(), 3, 4) {
		wantFault(t, world(in(api.OpInt), in(api.OpIf, a), halt), 0, 1, api.ErrJump)
	}
	wantFault(t, world(in(api.OpInt), in(api.OpIf, 0)), 0, 1, api.ErrJump)
	wantFault(t, world(in(api.OpInt), in(api.OpIf, 1)), 0, 1, api.ErrJump)
	wantFault(t, world(in(api.OpInt), in(api.OpIf, 1), halt), 0, 1, api.ErrStack)
	wantFault(t, world(append(pushed(word, word), in(api.OpIf, 0), halt)...), 0, 2, api.ErrStack)
	wantStacks(t, world(append(pushed(word, word), in(api.OpIf, 1), halt)...), 0, nil, []int{word}, []int{word, word}, []int{word})
}

// P11.1: OpIf's two places are both held against what they had.
func TestIfAgain(t *testing.T) {
	// 3 comes with a Word to 7, as before, and to the next one, where there was none.
	p := world(in(api.OpInt), in(api.OpJump, 5), halt, in(api.OpIf, 7), halt, in(api.OpIf, 4), in(api.OpInt), in(api.OpInt), in(api.OpJump, 3))
	wantFault(t, p, 0, 3, api.ErrStack)
	p = world(in(api.OpInt), in(api.OpInt), in(api.OpIf, 4), halt, in(api.OpIf, 3), halt)
	wantFault(t, p, 0, 4, api.ErrStack)
	p = world(in(api.OpInt), in(api.OpInt), in(api.OpIf, 5), in(api.OpPop), halt, in(api.OpIf, 4), halt)
	wantStacks(t, p, 0, nil, []int{word}, []int{word, word}, []int{word}, nil, []int{word}, nil)
}

// P11.1: all but four operations go on at the next instruction, and there must be one.
func TestGoingOn(t *testing.T) {
	one, two := []int{word}, []int{word, word}
	for _, c := range []struct {
		i     api.Instr
		ahead []int
	}{
		{in(api.OpInt), nil}, {in(api.OpNil, some), nil}, {in(api.OpGet), nil}, {in(api.OpSet), one}, {in(api.OpPop), one}, {in(api.OpDup), one},
		{in(api.OpArith), two}, {in(api.OpSame), []int{some, some}}, {in(api.OpIf), one}, {in(api.OpNew), nil}, {in(api.OpMake), one}, {in(api.OpArea), nil},
		{in(api.OpLoad), []int{ptr(1)}}, {in(api.OpStore), []int{ptr(1), word}}, {in(api.OpAddr), []int{ptr(1)}}, {in(api.OpElem), []int{arr(1), word}}, {in(api.OpLen), []int{arr(1)}},
		{in(api.OpBox), []int{ptr(1)}}, {in(api.OpTag), []int{some}}, {in(api.OpUnbox), []int{some}}, {in(api.OpCall, 3), nil}, {in(api.OpDyn, 2), one},
		{in(api.OpOut), one}, {in(api.OpPut), one}, {in(api.OpStr), nil},
	} {
		list := append(pushed(c.ahead...), c.i)
		wantFault(t, world(list...), 0, len(c.ahead), api.ErrJump)
		wantFine(t, world(append(list, halt)...))
		wantFault(t, world(append(list, in(api.OpNew, -1))...), 0, len(c.ahead)+1, api.ErrRange)
	}
	for _, c := range []struct {
		i     api.Instr
		ahead []int
	}{{in(api.OpJump), nil}, {in(api.OpRet), nil}, {in(api.OpTrap), one}, {in(api.OpTrap, math.MinInt, math.MaxInt), one}, {halt, nil}, {in(api.OpHalt, -1, 99), two}} {
		list := append(pushed(c.ahead...), c.i)
		wantFine(t, world(list...))
		wantFine(t, world(append(list, in(api.OpNew, -1))...))
	}
}

// P11.1: OpTrap takes a Word; OpHalt takes whatever there is.
func TestTrapAndHalt(t *testing.T) {
	wantFault(t, world(in(api.OpTrap)), 0, 0, api.ErrStack)
	for _, k := range kinds() {
		wantFine(t, world(append(pushed(k), halt)...))
		wantFine(t, world(append(pushed(k, word), in(api.OpTrap, 4))...))
		if k != word {
			wantFault(t, world(append(pushed(k), in(api.OpTrap, 4))...), 0, 1, api.ErrKind)
			wantFault(t, world(append(pushed(word, k), in(api.OpTrap, 4))...), 0, 2, api.ErrKind)
		}
	}
}

// ret: a world whose function 2 returns with these kinds on its stack.
func ret(kinds ...int) api.Prog {
	p := world(halt)
	p.Funcs[2].Code = append(pushed(kinds...), in(api.OpRet, -1, 99))
	return p
}

// P11.1: OpRet takes the results, and nothing may be left.
func TestRet(t *testing.T) {
	wantStacks(t, ret(ptr(1), arr(0)), 2, nil, []int{ptr(1)}, []int{ptr(1), arr(0)})
	wantFault(t, ret(), 2, 0, api.ErrStack)
	wantFault(t, ret(arr(0)), 2, 1, api.ErrStack)
	wantFault(t, ret(ptr(1)), 2, 1, api.ErrStack)
	wantFault(t, ret(word, ptr(1), arr(0)), 2, 3, api.ErrStack)
	wantFault(t, ret(ptr(1), arr(0), word), 2, 3, api.ErrStack)
	for _, k := range kinds() {
		if k != arr(0) {
			wantFault(t, ret(ptr(1), k), 2, 2, api.ErrKind)
		}
		if k != ptr(1) {
			wantFault(t, ret(k, arr(0)), 2, 2, api.ErrKind)
		}
		wantFault(t, world(append(pushed(k), in(api.OpRet))...), 0, 1, api.ErrStack)
	}
	wantFine(t, world(in(api.OpRet)))
	p := world(halt)
	p.Funcs[3].Code = []api.Instr{in(api.OpInt), in(api.OpRet)}
	wantFault(t, p, 3, 1, api.ErrStack)
}

// P11.1: a parameter is a local, and stays what its head says.
func TestParameters(t *testing.T) {
	p := world(halt)
	p.Funcs[2].Code = []api.Instr{in(api.OpGet, 0), in(api.OpGet, 2), in(api.OpRet)}
	wantFault(t, p, 2, 2, api.ErrKind)
	p.Funcs[2].Code = []api.Instr{in(api.OpGet, 3), in(api.OpGet, 2), in(api.OpPop), in(api.OpPop), in(api.OpGet, 0), in(api.OpSet, 0), in(api.OpJump, 0)}
	wantFine(t, p)
	p.Funcs[2].Code[3] = in(api.OpGet, 4)
	wantFault(t, p, 2, 3, api.ErrRange)
}

// Where an instruction is come to again, each kind of the stack must be the same, Local included, however deep.
func TestComeAgain(t *testing.T) {
	deep := []int{ptr(1), some, stays(arr(0)), word, arr(3)}
	meet := func(first, again []int) (api.Prog, int) {
		list := append([]api.Instr{in(api.OpInt), in(api.OpIf, 3+len(first))}, pushed(first...)...)
		list = append(list, in(api.OpJump, 3+len(first)+len(again)))
		return world(append(append(list, pushed(again...)...), halt)...), 2 + len(first) + len(again)
	}
	p, _ := meet(deep, deep)
	wantFine(t, p)
	for i := range deep {
		for _, k := range kinds() {
			if k == deep[i] {
				continue
			}
			other := slices.Clone(deep)
			other[i] = k
			p, at := meet(deep, other)
			wantFault(t, p, 0, at, api.ErrStack)
			p, at = meet(other, deep)
			wantFault(t, p, 0, at, api.ErrStack)
		}
		for _, list := range [][]int{deep[:i], deep[i+1:], slices.Insert(slices.Clone(deep), i, word), slices.Insert(slices.Clone(deep), i, deep[i])} {
			p, at := meet(deep, list)
			wantFault(t, p, 0, at, api.ErrStack)
			p, at = meet(list, deep)
			wantFault(t, p, 0, at, api.ErrStack)
		}
	}
}

// The same stack may be made in many ways: one by one, by calls, and by taking off more than was wanted.
func TestComeAgainOtherwise(t *testing.T) {
	call := append(pushed(ptr(1), some, arr(0)), in(api.OpCall, 2))
	ways := [][]api.Instr{
		slices.Concat(call, call),
		pushed(ptr(1), arr(0), ptr(1), arr(0)),
		slices.Concat(call, []api.Instr{in(api.OpPop)}, pushed(arr(0), ptr(1), arr(0))),
		slices.Concat(pushed(ptr(1)), call, []api.Instr{in(api.OpPop), in(api.OpPop)}, pushed(arr(0), ptr(1), arr(0))),
		slices.Concat(call, pushed(ptr(1), arr(0), word, word), []api.Instr{in(api.OpPop), in(api.OpPop)}),
		slices.Concat(call, pushed(ptr(1), some, arr(0), word), []api.Instr{in(api.OpDyn, 1)}),
		slices.Concat(call, call, call, []api.Instr{in(api.OpPop), in(api.OpPop)}),
	}
	for _, a := range ways {
		for _, b := range ways {
			list := slices.Concat([]api.Instr{in(api.OpInt), in(api.OpIf, 3+len(a))}, a, []api.Instr{in(api.OpJump, 3+len(a)+len(b))}, b, []api.Instr{halt})
			wantFine(t, world(list...))
			short := slices.Insert(slices.Clone(list), len(list)-1, in(api.OpPop))
			short[2+len(a)].A++
			wantFault(t, world(short...), 0, len(short)-2, api.ErrStack)
		}
	}
}

// Of the instructions that wait, the least is looked at first: its fault is told, though others came first, and by it the stack is set.
func TestLeastFirst(t *testing.T) {
	bad := in(api.OpNew, -1)
	wantFault(t, world(in(api.OpJump, 3), bad, bad, in(api.OpInt), in(api.OpIf, 2), in(api.OpJump, 1)), 0, 2, api.ErrRange)
	wantFault(t, world(in(api.OpInt), in(api.OpIf, 4), bad, bad, bad), 0, 2, api.ErrRange)
	wantFault(t, world(in(api.OpInt), in(api.OpIf, 4), halt, bad, bad), 0, 4, api.ErrRange)
	// 1 is come to by 4 and waits behind nothing; 5 waits behind it.
	wantFault(t, world(in(api.OpJump, 3), bad, halt, in(api.OpInt), in(api.OpIf, 1), bad), 0, 1, api.ErrRange)
	wantFault(t, world(in(api.OpJump, 3), halt, bad, in(api.OpInt), in(api.OpIf, 1), bad), 0, 5, api.ErrRange)
	// 2 comes to 7 with a Word ahead of 5, which comes there with an Any.
	p := world(in(api.OpInt), in(api.OpIf, 4), in(api.OpInt), in(api.OpJump, 7), in(api.OpNil, some), in(api.OpJump, 7), halt, halt)
	wantFault(t, p, 0, 5, api.ErrStack)
	// 6 is come to from 0, and goes back to 1, which is looked at ahead of 7: so 2 sets 8's stack, and 7 is at fault.
	p = world(in(api.OpJump, 4), in(api.OpInt), in(api.OpJump, 8), halt, in(api.OpInt), in(api.OpIf, 1), in(api.OpNil, some), in(api.OpJump, 8), halt)
	wantFault(t, p, 0, 7, api.ErrStack)
	// But what is come to last is looked at last, though it is less: 5 sets 7's stack, and 2 is at fault.
	p = world(in(api.OpJump, 3), in(api.OpInt), in(api.OpJump, 7), in(api.OpNil, some), in(api.OpInt), in(api.OpIf, 7), in(api.OpJump, 8), halt, in(api.OpPop), in(api.OpJump, 1))
	wantFault(t, p, 0, 2, api.ErrStack)
}

// The order in which many wait, over more than one word of bits.
func TestManyWait(t *testing.T) {
	const n = 300
	var list []api.Instr
	for i := range n {
		list = append(list, in(api.OpInt), in(api.OpIf, 2*n+1+i))
	}
	list = append(list, halt)
	for range n {
		list = append(list, halt)
	}
	wantFine(t, world(list...))
	for _, first := range []int{0, 1, 63, 64, 65, 128, 200, n - 1} {
		some := slices.Clone(list)
		for i := first; i < n; i += 7 {
			some[2*n+1+i] = in(api.OpOut)
		}
		wantFault(t, world(some...), 0, 2*n+1+first, api.ErrStack)
	}
}

// Code that is not come to is not looked at, whatever it is; nor does it come to anything.
func TestNeverComeTo(t *testing.T) {
	junk := []api.Instr{in(api.OpOut), in(api.OpNew, -1), in(api.OpIf, 0), in(api.OpCall, math.MaxInt), in(api.OpJump, -1), in(api.OpRet), in(api.OpJump, 0), in(api.OpStr, 9, 9)}
	for _, i := range junk {
		wantStacks(t, world(halt, i), 0, nil, never)
		wantStacks(t, world(in(api.OpJump, 2), i, halt), 0, nil, never, nil)
		wantStacks(t, world(in(api.OpInt), in(api.OpTrap), i), 0, nil, []int{word}, never)
		p := world(halt)
		p.Funcs[3].Code = []api.Instr{in(api.OpRet), i}
		wantStacks(t, p, 3, nil, never)
	}
	wantSize(t, world(halt, in(api.OpInt), in(api.OpInt), in(api.OpInt)), 0, 13)
}

// Functions' code is looked at in their order, called or not.
func TestFunctionsInOrder(t *testing.T) {
	for f := range 6 {
		for g := f; g < 6; g++ {
			p := world(halt)
			p.Funcs[f].Code = []api.Instr{in(api.OpInt), in(api.OpPop), in(api.OpNew, 7)}
			if g > f {
				p.Funcs[g].Code = []api.Instr{in(api.OpOut)}
			}
			wantFault(t, p, f, 2, api.ErrRange)
		}
	}
}
