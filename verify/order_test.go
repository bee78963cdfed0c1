package verify_test

import (
	"math"
	"testing"

	"halyard/api"
)

// flaw is a fault: where it is told, and what makes it.
type flaw struct {
	f, at int
	e     api.Errno
	make  func(p *api.Prog)
}

// flaws are such as do not hide one another, the one that is told first ahead.
func flaws() []flaw {
	return []flaw{
		{0, 0, api.ErrForm, func(p *api.Prog) { p.Funcs[3].Params = -1 }},
		{0, 0, api.ErrForms, func(p *api.Prog) { p.Types[6].Fields = nil }},
		{1, 0, api.ErrForms, func(p *api.Prog) { p.Funcs[1].Areas = []int{-1} }},
		{4, 0, api.ErrForms, func(p *api.Prog) { p.Funcs[4].Code = nil }},
		{0, 0, api.ErrForms, func(p *api.Prog) { p.Tables = append(p.Tables, nil) }},
		{0, 1, api.ErrKind, func(p *api.Prog) { p.Funcs[0].Code[1] = in(api.OpTag) }},
		{0, 3, api.ErrJump, func(p *api.Prog) { p.Funcs[0].Code[3] = in(api.OpJump, 9) }},
		{2, 1, api.ErrStack, func(p *api.Prog) { p.Funcs[2].Code[1] = in(api.OpRet) }},
		{5, 1, api.ErrRange, func(p *api.Prog) { p.Funcs[5].Code[1] = in(api.OpNil, 0) }},
	}
}

// P11.1: the limits, then the heads of the Types, of each Func, of the Tables, then the functions' code: of any two faults the first one is told.
func TestOrderOfParts(t *testing.T) {
	for i, first := range flaws() {
		for _, other := range flaws()[i:] {
			p := world(in(api.OpInt), in(api.OpOut), in(api.OpInt), in(api.OpJump, 4), halt)
			wantFine(t, p)
			other.make(&p)
			first.make(&p)
			wantFault(t, p, first.f, first.at, first.e)
		}
	}
}

// P11.1: of one instruction, A and B go ahead of too few on the stack, and of kinds that are wrong.
func TestRangeAheadOfStack(t *testing.T) {
	for _, i := range []api.Instr{in(api.OpNil, -1), in(api.OpGet, 6), in(api.OpSet, 6), in(api.OpArith, 10), in(api.OpArith, -1), in(api.OpNew, 7), in(api.OpMake, 7), in(api.OpArea, 3), in(api.OpAddr, 0, 7), in(api.OpUnbox, 7), in(api.OpCall, 6), in(api.OpDyn, 4), in(api.OpStr, 2, 0), in(api.OpStr, 0, 1), in(api.OpStr, 0, 7)} {
		for _, ahead := range [][]int{nil, {ptr(0)}, {stays(arr(0)), stays(arr(0))}} {
			wantFault(t, world(append(pushed(ahead...), i, halt)...), 0, len(ahead), api.ErrRange)
			wantFault(t, world(append(pushed(ahead...), i)...), 0, len(ahead), api.ErrRange)
		}
	}
}

// P11.1: what hangs on the stack comes behind it: A of OpLoad, OpStore and OpAddr, and B of OpAddr but for its being a type.
func TestFieldsBehindStack(t *testing.T) {
	for _, a := range []int{-1, 9, math.MaxInt, math.MinInt} {
		for _, i := range []api.Instr{in(api.OpLoad, a), in(api.OpStore, a), in(api.OpAddr, a, 6), in(api.OpAddr, a, 0)} {
			wantStep(t, nil, i, nil, api.ErrStack)
			wantStep(t, []int{some, some}, i, nil, api.ErrKind)
			wantStep(t, []int{arr(1), arr(1)}, i, nil, api.ErrKind)
			wantStep(t, []int{word, word}, i, nil, api.ErrKind)
		}
		wantStep(t, []int{ptr(1)}, in(api.OpStore, a), nil, api.ErrStack)
		wantStep(t, []int{some}, in(api.OpStore, a), nil, api.ErrStack)
		wantStep(t, []int{word, ptr(1)}, in(api.OpStore, a), nil, api.ErrKind)
	}
	wantStep(t, []int{some}, in(api.OpAddr, 0, 6), nil, api.ErrKind)
	wantStep(t, nil, in(api.OpAddr, 0, 6), nil, api.ErrStack)
	wantStep(t, []int{ptr(1)}, in(api.OpAddr, 0, 6), nil, api.ErrRange)
}

// P11.1: of OpStore the Ptr, then its field, then the value; too few go ahead of them all.
func TestStoreOrder(t *testing.T) {
	wantStep(t, []int{ptr(1)}, in(api.OpStore, 5), nil, api.ErrStack)
	wantStep(t, []int{arr(1), some}, in(api.OpStore, 5), nil, api.ErrKind)
	wantStep(t, []int{ptr(1), some}, in(api.OpStore, 5), nil, api.ErrRange)
	wantStep(t, []int{ptr(1), some}, in(api.OpStore, 0), nil, api.ErrKind)
	wantFault(t, world(append(pushed(ptr(1), some), in(api.OpStore, 0))...), 0, 2, api.ErrKind)
	wantFault(t, world(append(pushed(ptr(1), some), in(api.OpStore, 2))...), 0, 2, api.ErrRange)
	wantFault(t, world(append(pushed(ptr(1), word), in(api.OpStore, 0))...), 0, 2, api.ErrJump)
}

// P11.1: too few go ahead of kinds that are wrong, and of an instruction that is none; so do too many of OpRet.
func TestStackAheadOfKind(t *testing.T) {
	wantStep(t, []int{some}, in(api.OpArith), nil, api.ErrStack)
	wantStep(t, []int{word}, in(api.OpSame), nil, api.ErrStack)
	wantStep(t, []int{some}, in(api.OpElem), nil, api.ErrStack)
	wantStep(t, []int{word, word}, in(api.OpCall, 2), nil, api.ErrStack)
	wantStep(t, []int{some}, in(api.OpDyn, 0), nil, api.ErrStack)
	wantStep(t, []int{some}, in(api.OpStore), nil, api.ErrStack)
	wantFault(t, ret(word), 2, 1, api.ErrStack)
	wantFault(t, ret(word, word, word), 2, 3, api.ErrStack)
	wantFault(t, world(in(api.OpOut)), 0, 0, api.ErrStack)
	wantFault(t, world(in(api.OpIf, -1)), 0, 0, api.ErrStack)
	wantFault(t, world(in(api.OpIf, 7), halt), 0, 0, api.ErrStack)
	wantFault(t, world(in(api.OpInt), in(api.OpArith)), 0, 1, api.ErrStack)
}

// P11.1: kinds go ahead of instructions that are none.
func TestKindAheadOfJump(t *testing.T) {
	wantFault(t, world(in(api.OpNil, some), in(api.OpOut)), 0, 1, api.ErrKind)
	wantFault(t, world(in(api.OpNil, some), in(api.OpIf, 9), halt), 0, 1, api.ErrKind)
	wantFault(t, world(in(api.OpNil, some), in(api.OpIf, 1)), 0, 1, api.ErrKind)
	wantFault(t, world(in(api.OpNew), in(api.OpLoad, 1)), 0, 1, api.ErrRange)
	wantFault(t, world(in(api.OpNew, 1), in(api.OpAddr, 0, 2)), 0, 1, api.ErrRange)
	wantFault(t, world(in(api.OpNew, 1), in(api.OpAddr, 0, 0)), 0, 1, api.ErrJump)
}

// P11.1: instructions that are none go ahead of stacks that are not the same, of OpIf both places.
func TestJumpAheadOfStack(t *testing.T) {
	wantFault(t, world(append(pushed(word, word), in(api.OpIf, 0))...), 0, 2, api.ErrJump)
	wantFault(t, world(append(pushed(word, word), in(api.OpIf, 0), halt)...), 0, 2, api.ErrStack)
	// 4 comes to 5 with other kinds than 2 did.
	wantFault(t, world(in(api.OpInt), in(api.OpInt), in(api.OpIf, 5), in(api.OpInt), in(api.OpIf, 9), in(api.OpPop), halt), 0, 4, api.ErrJump)
	wantFault(t, world(in(api.OpInt), in(api.OpInt), in(api.OpIf, 6), in(api.OpInt), in(api.OpInt), in(api.OpIf, -1), in(api.OpPop), halt), 0, 5, api.ErrJump)
	wantFault(t, world(in(api.OpInt), in(api.OpInt), in(api.OpIf, 6), in(api.OpInt), in(api.OpInt), in(api.OpIf, 7), in(api.OpPop), halt), 0, 5, api.ErrStack)
}
