package verify

import (
	"slices"

	"halyard/api"
)

// names: are A and B what they must be, whatever is on the stack? (Where instructions are named is looked at last.)
func (w *flow) names(in api.Instr) bool {
	types := len(w.prog.Types)
	switch in.Op {
	case api.OpNil:
		return in.A != api.Word && isKind(in.A, types)
	case api.OpGet, api.OpSet:
		return within(in.A, len(w.fn.Locals))
	case api.OpArith:
		return in.A >= api.Add && in.A <= api.Lt
	case api.OpNew, api.OpMake, api.OpUnbox:
		return within(in.A, types)
	case api.OpArea:
		return within(in.A, len(w.fn.Areas))
	case api.OpAddr:
		return within(in.B, types)
	case api.OpCall:
		return within(in.A, len(w.prog.Funcs))
	case api.OpDyn:
		return within(in.A, len(w.prog.Tables))
	case api.OpStr:
		return within(in.A, len(w.prog.Strs)) && within(in.B, types) && w.only(in.B, api.Word)
	}
	return true
}

// only: has a type one field alone, of this kind?
func (w *flow) only(t, kind int) bool {
	fields := w.prog.Types[t].Fields
	return len(fields) == 1 && fields[0] == kind
}

// takes: how many kinds an instruction takes, and what they must be. What hangs on another one's type is looked at by puts.
func (w *flow) takes(in api.Instr) (int, must) {
	switch in.Op {
	case api.OpSet:
		return fitting(w.fn.Locals[in.A])
	case api.OpPop, api.OpDup:
		return these(anything)
	case api.OpArith:
		return fitting(api.Word, api.Word)
	case api.OpSame:
		return alike()
	case api.OpIf, api.OpMake, api.OpOut, api.OpPut, api.OpTrap:
		return fitting(api.Word)
	case api.OpLoad, api.OpAddr:
		return these(of(api.Ptr))
	case api.OpStore:
		return these(of(api.Ptr), anything)
	case api.OpElem:
		return these(of(api.Arr), exactly(api.Word))
	case api.OpLen:
		return these(of(api.Arr))
	case api.OpBox:
		return these(boxable)
	case api.OpTag, api.OpUnbox:
		return fitting(api.Any)
	case api.OpCall:
		return fitting(parameters(w.prog.Funcs[in.A])...)
	case api.OpDyn:
		return fitting(append(slices.Clone(parameters(w.item(in.A))), api.Word)...)
	case api.OpRet:
		return fitting(w.fn.Results...)
	}
	return these()
}

// item: a function of a table, of which all are called in one way.
func (w *flow) item(table int) api.Func { return w.prog.Funcs[w.prog.Tables[table][0]] }

// puts: the kinds that an instruction puts, where top and low are the topmost and the lowest one of those that it takes.
func (w *flow) puts(in api.Instr, top, low int) []int {
	switch in.Op {
	case api.OpInt, api.OpArith, api.OpSame, api.OpLen, api.OpTag:
		return []int{api.Word}
	case api.OpNil:
		return []int{in.A}
	case api.OpGet:
		return []int{w.fn.Locals[in.A]}
	case api.OpDup:
		return []int{low, low}
	case api.OpNew, api.OpUnbox:
		return []int{api.Ptr + 2*in.A}
	case api.OpMake:
		return []int{api.Arr + 2*in.A}
	case api.OpArea:
		return []int{api.Local + api.Ptr + 2*w.fn.Areas[in.A]}
	case api.OpLoad:
		return []int{w.field(low, in.A)}
	case api.OpStore:
		w.require(w.field(low, in.A) == top, api.ErrKind)
	case api.OpAddr:
		w.require(w.only(in.B, w.field(low, in.A)), api.ErrRange)
		return []int{low&api.Local + api.Ptr + 2*in.B}
	case api.OpElem:
		return []int{low - api.Arr + api.Ptr}
	case api.OpBox:
		return []int{api.Any}
	case api.OpCall:
		return w.prog.Funcs[in.A].Results
	case api.OpDyn:
		return w.item(in.A).Results
	case api.OpStr:
		return []int{api.Arr + 2*in.B}
	}
	return nil
}

// field: the kind of a field of the type that a pointer is of.
func (w *flow) field(pointer, n int) int {
	fields := w.prog.Types[typeOf(pointer)].Fields
	w.require(within(n, len(fields)), api.ErrRange)
	return fields[n]
}

// nexts: the instructions at which it goes on behind one, in the order in which they are come to.
func (w *flow) nexts(in api.Instr) []int {
	switch in.Op {
	case api.OpJump:
		return []int{in.A}
	case api.OpIf:
		return []int{w.at + 1, in.A}
	case api.OpRet, api.OpTrap, api.OpHalt:
		return nil
	}
	return []int{w.at + 1}
}
