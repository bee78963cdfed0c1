package sample

import (
	"math"
	"slices"

	"halyard/api"
)

// ChangeProg changes one thing of a program of the machine, mostly of its code. It may be sound or not then.
func ChangeProg(pick func(n int) int, p *api.Prog) {
	fn := &p.Funcs[pick(len(p.Funcs))]
	switch k := pick(24); {
	case k == 0:
		changeKinds(pick, &p.Types[pick(len(p.Types))].Fields)
	case k == 1:
		changeKinds(pick, &fn.Locals)
	case k == 2:
		changeKinds(pick, &fn.Results)
	case k == 3:
		changeKinds(pick, &fn.Areas)
	case k == 4:
		fn.Params = progNumber(pick, fn.Params)
	case k == 5 && len(p.Tables) > 0:
		changeKinds(pick, &p.Tables[pick(len(p.Tables))])
	default:
		changeCode(pick, fn, k)
	}
}

func changeCode(pick func(n int) int, fn *api.Func, k int) {
	at := pick(len(fn.Code) + 1)
	other := api.Instr{Op: 1 + pick(api.OpStr), A: progNumber(pick, 0), B: progNumber(pick, 0)}
	fn.Code = slices.Clone(fn.Code)
	switch {
	case k < 8:
		fn.Code = slices.Insert(fn.Code, at, other)
	case at == len(fn.Code):
		fn.Code = fn.Code[:pick(at+1)]
	case k < 11:
		fn.Code = slices.Delete(fn.Code, at, at+1)
	case k < 13:
		fn.Code[at] = other
	case k < 15:
		fn.Code[at].Op = other.Op
	case k < 21:
		fn.Code[at].A = progNumber(pick, fn.Code[at].A)
	default:
		fn.Code[at].B = progNumber(pick, fn.Code[at].B)
	}
}

func changeKinds(pick func(n int) int, list *[]int) {
	at := pick(len(*list) + 1)
	*list = slices.Clone(*list)
	switch {
	case at == len(*list):
		*list = append(*list, progNumber(pick, 0))
	case pick(3) == 0:
		*list = slices.Delete(*list, at, at+1)
	default:
		(*list)[at] = progNumber(pick, (*list)[at])
	}
}

// progNumber: one near what stands there, or far from everything.
func progNumber(pick func(n int) int, old int) int {
	switch pick(8) {
	case 0:
		return []int{-1, -64, 1 << 21, 1 << 32, 1<<32 + 1, -1 << 32, math.MaxInt, math.MaxInt - 1, math.MinInt, math.MinInt + 2}[pick(10)]
	case 1:
		return old + api.Local
	case 2:
		return old - api.Local
	case 3:
		return old + 1
	case 4:
		return old - 1
	}
	return pick(12) - 1
}
