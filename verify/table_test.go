package verify_test

import (
	"math"
	"slices"
	"testing"

	"halyard/api"
)

// ends are numbers below 0, and far beyond any list.
func ends() []int {
	return []int{-1, -2, -64, 1 << 20, 1 << 21, 1<<20 + 2, math.MaxInt32, math.MinInt32, 1 << 32, 1<<32 + 1, -1 << 32, math.MaxInt, math.MaxInt - 1, math.MinInt, math.MinInt + 1, math.MinInt + 2}
}

// P11.1: what takes nothing puts this.
func TestTakesNothing(t *testing.T) {
	for _, c := range []struct {
		i    api.Instr
		puts int
	}{
		{in(api.OpInt), word}, {in(api.OpInt, -5, 9), word}, {in(api.OpInt, math.MaxInt, math.MinInt), word},
		{in(api.OpGet, 0), word}, {in(api.OpGet, 1), some}, {in(api.OpGet, 2), ptr(1)}, {in(api.OpGet, 3), arr(1)}, {in(api.OpGet, 4), stays(ptr(1))}, {in(api.OpGet, 5), stays(arr(1))},
		{in(api.OpNew, 0), ptr(0)}, {in(api.OpNew, 6), ptr(6)},
		{in(api.OpArea, 0), stays(ptr(1))}, {in(api.OpArea, 1), stays(ptr(0))}, {in(api.OpArea, 2), stays(ptr(5))},
		{in(api.OpStr, 0, 0), arr(0)}, {in(api.OpStr, 1, 0), arr(0)},
	} {
		for _, ahead := range [][]int{nil, {word}, {some, stays(arr(3))}} {
			wantStep(t, ahead, c.i, append(slices.Clone(ahead), c.puts), api.OK)
		}
	}
	for _, k := range kinds()[1:] {
		wantStep(t, []int{some}, in(api.OpNil, k, math.MinInt), []int{some, k}, api.OK)
	}
}

// P11.1: of what takes one kind, which ones it takes, and what it puts; all others are ErrKind, and nothing is ErrStack.
func TestTakesOne(t *testing.T) {
	type row struct {
		i    api.Instr
		puts map[int][]int
	}
	pop, dup, length := map[int][]int{}, map[int][]int{}, map[int][]int{}
	for _, k := range kinds() {
		pop[k], dup[k] = nil, []int{k, k}
	}
	box, first := map[int][]int{}, map[int][]int{}
	for n, list := range fields() {
		length[arr(n)], length[stays(arr(n))] = []int{word}, []int{word}
		box[ptr(n)] = []int{some}
		first[ptr(n)], first[stays(ptr(n))] = list[:1], list[:1]
	}
	for _, c := range []row{
		{in(api.OpSet, 0), map[int][]int{word: nil}},
		{in(api.OpSet, 1), map[int][]int{some: nil}},
		{in(api.OpSet, 2), map[int][]int{ptr(1): nil}},
		{in(api.OpSet, 3), map[int][]int{arr(1): nil}},
		{in(api.OpSet, 4), map[int][]int{ptr(1): nil, stays(ptr(1)): nil}},
		{in(api.OpSet, 5), map[int][]int{arr(1): nil, stays(arr(1)): nil}},
		{in(api.OpPop), pop}, {in(api.OpPop, -1, -1), pop},
		{in(api.OpDup), dup}, {in(api.OpDup, math.MaxInt, 99), dup},
		{in(api.OpMake, 0), map[int][]int{word: {arr(0)}}},
		{in(api.OpMake, 6, -1), map[int][]int{word: {arr(6)}}},
		{in(api.OpLoad, 0, -1), first},
		{in(api.OpLen), length}, {in(api.OpLen, -1, 99), length},
		{in(api.OpBox), box}, {in(api.OpBox, -1, 99), box},
		{in(api.OpTag, -1, 99), map[int][]int{some: {word}}},
		{in(api.OpUnbox, 0, -1), map[int][]int{some: {ptr(0)}}},
		{in(api.OpUnbox, 6), map[int][]int{some: {ptr(6)}}},
		{in(api.OpOut, -1, 99), map[int][]int{word: nil}},
		{in(api.OpPut, -1, 99), map[int][]int{word: nil}},
		{in(api.OpCall, 1, -1), map[int][]int{word: {word}}},
		{in(api.OpDyn, 2, -1), map[int][]int{word: nil}},
		{in(api.OpDyn, 3), map[int][]int{word: nil}},
	} {
		wantStep(t, nil, c.i, nil, api.ErrStack)
		for _, k := range kinds() {
			if puts, ok := c.puts[k]; ok {
				wantStep(t, []int{k}, c.i, puts, api.OK)
				wantStep(t, []int{some, word, k}, c.i, append([]int{some, word}, puts...), api.OK)
			} else {
				wantStep(t, []int{k}, c.i, nil, api.ErrKind)
				wantStep(t, []int{word, some, ptr(1), k}, c.i, nil, api.ErrKind)
			}
		}
	}
}

// P11.1: OpArith takes two Words, for each of what it does, and nothing else.
func TestArith(t *testing.T) {
	for a := api.Add; a <= api.Lt; a++ {
		wantStep(t, []int{word, word}, in(api.OpArith, a, -7), []int{word}, api.OK)
		wantStep(t, []int{some, word, word}, in(api.OpArith, a), []int{some, word}, api.OK)
		wantStep(t, nil, in(api.OpArith, a), nil, api.ErrStack)
		wantStep(t, []int{word}, in(api.OpArith, a), nil, api.ErrStack)
		for _, k := range kinds()[1:] {
			wantStep(t, []int{word, k}, in(api.OpArith, a), nil, api.ErrKind)
			wantStep(t, []int{k, word}, in(api.OpArith, a), nil, api.ErrKind)
			wantStep(t, []int{word, word, k, k}, in(api.OpArith, a), nil, api.ErrKind)
		}
	}
}

// P11.1: OpSame takes two of which one fits the other, in either order, but Words.
func TestSame(t *testing.T) {
	wantStep(t, nil, in(api.OpSame), nil, api.ErrStack)
	for _, k := range kinds() {
		wantStep(t, []int{k}, in(api.OpSame), nil, api.ErrStack)
		for _, m := range kinds() {
			e := api.ErrKind
			if k != word && k%api.Local == m%api.Local {
				e = api.OK
			}
			wantStep(t, []int{k, m}, in(api.OpSame, -1, 99), []int{word}, e)
			wantStep(t, []int{m, word, k, m}, in(api.OpSame), []int{m, word, word}, e)
		}
	}
}

// P11.1: OpLoad of each field of each type.
func TestLoad(t *testing.T) {
	for n, list := range fields() {
		for _, k := range []int{ptr(n), stays(ptr(n))} {
			for a, field := range list {
				wantStep(t, []int{k}, in(api.OpLoad, a), []int{field}, api.OK)
				wantStep(t, []int{k, k}, in(api.OpLoad, a), []int{k, field}, api.OK)
			}
			for _, a := range append(ends(), len(list), len(list)+1) {
				wantStep(t, []int{k}, in(api.OpLoad, a), nil, api.ErrRange)
			}
		}
	}
}

// P11.1: OpStore of each kind into each field of each type.
func TestStore(t *testing.T) {
	wantStep(t, nil, in(api.OpStore), nil, api.ErrStack)
	for _, k := range kinds() {
		wantStep(t, []int{k}, in(api.OpStore), nil, api.ErrStack)
		for _, m := range kinds() {
			if k%2 == 1 || k == word {
				wantStep(t, []int{k, m}, in(api.OpStore, 0), nil, api.ErrKind)
				wantStep(t, []int{k, m}, in(api.OpStore, -1), nil, api.ErrKind)
			}
		}
	}
	for n, list := range fields() {
		for _, k := range []int{ptr(n), stays(ptr(n))} {
			for a, field := range list {
				for _, m := range kinds() {
					e := api.ErrKind
					if m == field {
						e = api.OK
					}
					wantStep(t, []int{k, m}, in(api.OpStore, a, -1), nil, e)
					wantStep(t, []int{some, k, m}, in(api.OpStore, a), []int{some}, e)
				}
			}
			for _, a := range append(ends(), len(list), len(list)+1) {
				wantStep(t, []int{k, word}, in(api.OpStore, a), nil, api.ErrRange)
				wantStep(t, []int{k, stays(arr(6))}, in(api.OpStore, a), nil, api.ErrRange)
			}
		}
	}
}

// P11.1: OpAddr of each field of each type, as each type.
func TestAddr(t *testing.T) {
	for n, list := range fields() {
		for _, k := range []int{ptr(n), stays(ptr(n))} {
			for b, only := range fields() {
				for a, field := range list {
					e := api.ErrRange
					if len(only) == 1 && only[0] == field {
						e = api.OK
					}
					wantStep(t, []int{k}, in(api.OpAddr, a, b), []int{k - ptr(n) + ptr(b)}, e)
					wantStep(t, []int{word, k}, in(api.OpAddr, a, b), []int{word, k - ptr(n) + ptr(b)}, e)
				}
				for _, a := range append(ends(), len(list), len(list)+1) {
					wantStep(t, []int{k}, in(api.OpAddr, a, b), nil, api.ErrRange)
				}
			}
		}
		wantStep(t, []int{arr(n)}, in(api.OpAddr, 0, 0), nil, api.ErrKind)
		wantStep(t, []int{stays(arr(n))}, in(api.OpAddr, 0, 0), nil, api.ErrKind)
	}
	wantStep(t, nil, in(api.OpAddr), nil, api.ErrStack)
	wantStep(t, []int{word}, in(api.OpAddr), nil, api.ErrKind)
	wantStep(t, []int{some}, in(api.OpAddr), nil, api.ErrKind)
}

// P11.1: OpElem takes each Arr, and a Word on top.
func TestElem(t *testing.T) {
	wantStep(t, nil, in(api.OpElem), nil, api.ErrStack)
	for _, k := range kinds() {
		wantStep(t, []int{k}, in(api.OpElem), nil, api.ErrStack)
		for _, m := range kinds() {
			if m == word && k != some && k%2 == 1 {
				wantStep(t, []int{k, m}, in(api.OpElem, -1, 99), []int{k - 1}, api.OK)
				wantStep(t, []int{word, k, m}, in(api.OpElem), []int{word, k - 1}, api.OK)
			} else {
				wantStep(t, []int{k, m}, in(api.OpElem), nil, api.ErrKind)
			}
		}
	}
}

// P11.1: OpCall and OpDyn take what fits each parameter, and put the results.
func TestCalls(t *testing.T) {
	fine := []int{stays(ptr(1)), some, stays(arr(0))}
	results := []int{ptr(1), arr(0)}
	call, dyn := in(api.OpCall, 2, 99), in(api.OpDyn, 1, -1)
	for i := range fine {
		for _, k := range kinds() {
			args := slices.Clone(fine)
			args[i] = k
			e := api.ErrKind
			if k == fine[i] || k+api.Local == fine[i] {
				e = api.OK
			}
			wantStep(t, args, call, results, e)
			wantStep(t, append([]int{word}, args...), call, append([]int{word}, results...), e)
			wantStep(t, append(slices.Clone(args), word), dyn, results, e)
			wantStep(t, append(append([]int{arr(3)}, args...), word), dyn, append([]int{arr(3)}, results...), e)
		}
		wantStep(t, fine[:i], call, nil, api.ErrStack)
		wantStep(t, append(slices.Clone(fine[:i]), word), dyn, nil, api.ErrStack)
	}
	wantStep(t, fine, dyn, nil, api.ErrStack)
	wantStep(t, nil, dyn, nil, api.ErrStack)
	for _, k := range kinds()[1:] {
		wantStep(t, append(slices.Clone(fine), k), dyn, nil, api.ErrKind)
	}
	wantStep(t, []int{word, word}, in(api.OpDyn, 0), []int{word}, api.OK)
	wantStep(t, []int{word, some}, in(api.OpDyn, 0), nil, api.ErrKind)
	wantStep(t, []int{some, word}, in(api.OpDyn, 0), nil, api.ErrKind)
	for _, ahead := range [][]int{nil, {word}, {some, ptr(3)}} {
		wantStep(t, ahead, in(api.OpCall, 0), ahead, api.OK)
		wantStep(t, ahead, in(api.OpCall, 3), ahead, api.OK)
	}
}

// P11.1: the numbers that A and B may be, at each first, each last and beyond.
func TestNumbers(t *testing.T) {
	for _, c := range []struct {
		i     api.Instr
		ahead []int
		many  int // A is from 0 to before this
	}{
		{in(api.OpGet), nil, 6}, {in(api.OpSet), []int{some}, 6},
		{in(api.OpArith), []int{word, word}, 10},
		{in(api.OpNew), nil, 7}, {in(api.OpMake), []int{word}, 7}, {in(api.OpUnbox), []int{some}, 7},
		{in(api.OpArea), nil, 3},
		{in(api.OpCall), []int{some}, 6}, {in(api.OpDyn), []int{some}, 4},
		{in(api.OpStr), nil, 2},
	} {
		for _, a := range append(ends(), c.many, c.many+1) {
			c.i.A = a
			for _, ahead := range [][]int{c.ahead, nil, {ptr(1)}, {word, word, word, word}} {
				wantStep(t, ahead, c.i, nil, api.ErrRange)
			}
		}
	}
	for _, b := range append(ends(), 1, 2, 3, 4, 5, 6, 7, 8) {
		wantStep(t, nil, in(api.OpStr, 0, b), nil, api.ErrRange)
		wantStep(t, nil, in(api.OpStr, 1, b), nil, api.ErrRange)
	}
	for _, b := range append(ends(), 7, 8) {
		for _, ahead := range [][]int{nil, {word}, {ptr(1)}} {
			wantStep(t, ahead, in(api.OpAddr, 0, b), nil, api.ErrRange)
		}
	}
}

// P11.1: OpNil's A is a kind but Word.
func TestNilKinds(t *testing.T) {
	many := len(fields())
	for _, a := range []int{-1, -2, word, ptr(many), arr(many), ptr(many + 1), api.Local - 1, api.Local, api.Local + 1, api.Local - 2, stays(ptr(many)), stays(arr(many)), 2 * api.Local, 2*api.Local + 2, 2*api.Local + 3, 3*api.Local + 2, 1<<32 + 2, 1<<62 + 2, 1<<62 + api.Local + 2, math.MinInt + 2, math.MinInt + api.Local + 2, math.MaxInt, math.MinInt, -api.Local + 2, -api.Local} {
		wantStep(t, nil, in(api.OpNil, a), nil, api.ErrRange)
		wantStep(t, []int{some}, in(api.OpNil, a), nil, api.ErrRange)
	}
}

// Without types there are no kinds but Word and Any.
func TestNoTypes(t *testing.T) {
	alone := func(list ...api.Instr) api.Prog { return api.Prog{Funcs: []api.Func{{Code: list}}} }
	wantStacks(t, alone(in(api.OpNil, some), halt), 0, nil, []int{some})
	for _, i := range []api.Instr{in(api.OpNil, ptr(0)), in(api.OpNil, arr(0)), in(api.OpNil, stays(ptr(0))), in(api.OpNil, stays(arr(0))), in(api.OpNew), in(api.OpMake), in(api.OpUnbox), in(api.OpGet), in(api.OpSet), in(api.OpArea), in(api.OpDyn), in(api.OpStr), in(api.OpAddr)} {
		wantFault(t, alone(i, halt), 0, 0, api.ErrRange)
	}
	wantFine(t, alone(in(api.OpCall, 0), halt))
	wantFault(t, alone(in(api.OpCall, 1), halt), 0, 0, api.ErrRange)
}

// The texts of Strs and the types are asked for each by itself.
func TestStr(t *testing.T) {
	p := world(in(api.OpStr, 1, 0), in(api.OpInt), in(api.OpElem), in(api.OpLoad), in(api.OpOut), halt)
	wantStacks(t, p, 0, nil, []int{arr(0)}, []int{arr(0), word}, []int{ptr(0)}, []int{word}, nil)
	p.Strs = p.Strs[:1]
	wantFault(t, p, 0, 0, api.ErrRange)
	p.Strs = nil
	wantFault(t, p, 0, 0, api.ErrRange)
}
