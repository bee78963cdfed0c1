package maps

import (
	"halyard/api"
	"halyard/pile"
)

// way is the way through a function's code, of a program that is sound: each instruction has one stack, whichever way comes to it, so that each is gone through once. The stacks are made here, and not asked of layer 11, since that writes out each instruction's: of deep stacks, that is far more than the maps of the safepoints are.
type way struct {
	prog api.Prog
	fn   api.Func
}

// aheads: the operand stack ahead of each instruction; nil, if it is not come to.
func aheads(p api.Prog, fn api.Func) []*pile.Pile {
	w := way{p, fn}
	ahead := make([]*pile.Pile, len(fn.Code))
	ahead[0] = &pile.Pile{}
	waits := []int{0}
	for len(waits) > 0 {
		last := len(waits) - 1
		at := waits[last]
		waits = waits[:last]
		behind := w.behind(fn.Code[at], ahead[at])
		for _, next := range nexts(fn.Code[at], at) {
			if ahead[next] == nil {
				ahead[next] = behind
				waits = append(waits, next)
			}
		}
	}
	return ahead
}

// nexts: the instructions at which it goes on behind the one at a place.
func nexts(in api.Instr, at int) []int {
	switch in.Op {
	case api.OpJump:
		return []int{in.A}
	case api.OpIf:
		return []int{at + 1, in.A}
	case api.OpRet, api.OpTrap, api.OpHalt:
		return nil
	}
	return []int{at + 1}
}

// behind: the operand stack behind an instruction that it goes on behind.
func (w way) behind(in api.Instr, s *pile.Pile) *pile.Pile {
	switch in.Op {
	case api.OpInt:
		return s.With(api.Word)
	case api.OpNil:
		return s.With(in.A)
	case api.OpGet:
		return s.With(w.fn.Locals[in.A])
	case api.OpSet, api.OpPop, api.OpIf, api.OpOut, api.OpPut:
		return s.Without(1)
	case api.OpDup:
		return s.With(s.Top())
	case api.OpArith, api.OpSame:
		return s.Without(2).With(api.Word)
	case api.OpNew:
		return s.With(api.Ptr + 2*in.A)
	case api.OpMake:
		return s.Without(1).With(api.Arr + 2*in.A)
	case api.OpArea:
		return s.With(api.Local + api.Ptr + 2*w.fn.Areas[in.A])
	case api.OpLoad:
		return s.Without(1).With(w.fields(s.Top())[in.A])
	case api.OpStore:
		return s.Without(2)
	case api.OpAddr:
		return s.Without(1).With(s.Top()&api.Local + api.Ptr + 2*in.B)
	case api.OpElem:
		return s.Without(2).With(s.Without(1).Top() - api.Arr + api.Ptr)
	case api.OpLen, api.OpTag:
		return s.Without(1).With(api.Word)
	case api.OpBox:
		return s.Without(1).With(api.Any)
	case api.OpUnbox:
		return s.Without(1).With(api.Ptr + 2*in.A)
	case api.OpCall:
		return called(w.prog.Funcs[in.A], s)
	case api.OpDyn:
		return called(w.prog.Funcs[w.prog.Tables[in.A][0]], s.Without(1))
	case api.OpStr:
		return s.With(api.Arr + 2*in.B)
	}
	return s
}

// called: the operand stack behind a call of a function.
func called(fn api.Func, s *pile.Pile) *pile.Pile {
	return s.Without(fn.Params).With(fn.Results...)
}

// fields: the kinds of the fields of what a pointer names.
func (w way) fields(pointer int) []int {
	return w.prog.Types[(pointer&^api.Local-api.Ptr)/2].Fields
}
