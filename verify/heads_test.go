package verify_test

import (
	"math"
	"slices"
	"testing"

	"halyard/api"
)

// noKinds are numbers that are kinds nowhere in the world.
func noKinds() []int {
	many := len(fields())
	return []int{-1, -2, -3, ptr(many), arr(many), ptr(many + 1), 1000, api.Local - 2, api.Local - 1, api.Local, api.Local + 1, stays(ptr(many)), stays(arr(many)), 2 * api.Local, 2*api.Local + 2, 2*api.Local + 3, 3*api.Local + 2, 1<<32 + 2, 1 << 62, 1<<62 + 2, -api.Local, -api.Local + 2, math.MaxInt, math.MinInt, math.MinInt + 2, math.MinInt + api.Local + 2}
}

// with: the list, with an item more, first, in the middle and last.
func with(list []int, item int) [][]int {
	var all [][]int
	for _, at := range []int{0, len(list) / 2, len(list)} {
		all = append(all, slices.Insert(slices.Clone(list), at, item))
	}
	return all
}

// The heads of the Types: a field at least, each a kind without Local.
func TestTypes(t *testing.T) {
	for n := range fields() {
		p := world(halt)
		p.Types[n].Fields = nil
		wantFault(t, p, 0, 0, api.ErrForms)
		p.Types[n].Fields = []int{}
		wantFault(t, p, 0, 0, api.ErrForms)
	}
	for n := 1; n < len(fields()); n++ {
		for _, k := range kinds() {
			for _, list := range with(fields()[n], k) {
				p := world(halt)
				p.Types[n].Fields = list
				if k >= api.Local {
					wantFault(t, p, 0, 0, api.ErrForms)
				} else {
					wantFine(t, p)
				}
			}
		}
		for _, k := range noKinds() {
			for _, list := range with(fields()[n], k) {
				p := world(halt)
				p.Types[n].Fields = list
				wantFault(t, p, 0, 0, api.ErrForms)
			}
		}
	}
}

// A type may be of itself, and of one behind it; the last is one, and there is none beyond.
func TestTypesOfTypes(t *testing.T) {
	p := api.Prog{Types: []api.Layout{{Fields: []int{ptr(0), arr(1)}}, {Fields: []int{arr(1), ptr(0)}}}, Funcs: []api.Func{{Code: []api.Instr{halt}}}}
	wantFine(t, p)
	p.Types = p.Types[:1]
	wantFault(t, p, 0, 0, api.ErrForms)
}

// The heads of Funcs: locals are kinds, Local or not; results are kinds without Local.
func TestLocalsAndResults(t *testing.T) {
	stop := []api.Instr{halt}
	for f := range 6 {
		for _, k := range append(kinds(), noKinds()...) {
			p := world(halt)
			isKind := slices.Contains(kinds(), k)
			for _, list := range with(p.Funcs[f].Locals, k) {
				q := world(halt)
				q.Tables = nil
				q.Funcs[f].Locals, q.Funcs[f].Code = list, stop
				if isKind {
					wantFine(t, q)
				} else {
					wantFault(t, q, f, 0, api.ErrForms)
				}
			}
			for _, list := range with(p.Funcs[f].Results, k) {
				q := world(halt)
				q.Tables = nil
				q.Funcs[f].Results, q.Funcs[f].Code = list, stop
				if isKind && k < api.Local && f > 0 {
					wantFine(t, q)
				} else {
					wantFault(t, q, f, 0, api.ErrForms)
				}
			}
		}
	}
}

// The heads of Funcs: areas are types.
func TestAreas(t *testing.T) {
	for f := range 6 {
		for _, n := range append(ends(), 0, 1, 5, 6, 7, 8) {
			for _, list := range with([]int{0, 6, 2}, n) {
				p := world(halt)
				p.Funcs[f].Areas = list
				if n >= 0 && n < 7 {
					wantFine(t, p)
				} else {
					wantFault(t, p, f, 0, api.ErrForms)
				}
			}
		}
	}
}

// The heads of Funcs: there is code; function 0 has no parameter and no result.
func TestCodeAndFirst(t *testing.T) {
	for f := range 6 {
		p := world(halt)
		p.Funcs[f].Code = nil
		wantFault(t, p, f, 0, api.ErrForms)
		p.Funcs[f].Code = []api.Instr{}
		wantFault(t, p, f, 0, api.ErrForms)
	}
	p := world(halt)
	p.Tables = nil
	wantFine(t, p)
	for n := 1; n <= 6; n++ {
		p.Funcs[0].Params = n
		wantFault(t, p, 0, 0, api.ErrForms)
	}
	p.Funcs[0].Params = 0
	p.Funcs[0].Results = []int{word}
	wantFault(t, p, 0, 0, api.ErrForms)
}

// The heads of the Tables: an item at least, each a function.
func TestTables(t *testing.T) {
	for n := range 4 {
		p := world(halt)
		p.Tables[n] = nil
		wantFault(t, p, 0, 0, api.ErrForms)
		p.Tables[n] = []int{}
		wantFault(t, p, 0, 0, api.ErrForms)
		for _, f := range append(ends(), 6, 7) {
			for _, list := range append(with(world().Tables[n], f), []int{f}) {
				p.Tables[n] = list
				wantFault(t, p, 0, 0, api.ErrForms)
			}
		}
	}
	p := world(halt)
	p.Tables = [][]int{}
	wantFine(t, p)
	p.Tables = [][]int{{5}, {4}, {3}, {2}, {1}, {0}, {4, 4, 1, 4}}
	wantFine(t, p)
}

// The heads of the Tables: all functions have the same parameters and the same results.
func TestTablesOfOneForm(t *testing.T) {
	form := []int{0, 1, 2, 0, 1, 2}
	for f := range 6 {
		for g := range 6 {
			for _, list := range [][]int{{f, g}, {f, f, g}, {f, g, f}} {
				p := world(halt)
				p.Tables = append(p.Tables, list)
				if form[f] == form[g] {
					wantFine(t, p)
				} else {
					wantFault(t, p, 0, 0, api.ErrForms)
				}
			}
		}
	}
	stop := []api.Instr{halt}
	pair := func(a, b api.Func) api.Prog {
		a.Code, b.Code = stop, stop
		return api.Prog{Types: []api.Layout{{Fields: []int{word}}}, Funcs: []api.Func{{Code: stop}, a, b}, Tables: [][]int{{1, 2}}}
	}
	list := []int{word, ptr(0), some}
	wantFine(t, pair(api.Func{Params: 2, Locals: list, Results: list}, api.Func{Params: 2, Locals: list[:2], Results: list}))
	wantFine(t, pair(api.Func{Params: 2, Locals: list}, api.Func{Params: 2, Locals: []int{word, ptr(0), word}, Areas: []int{0}}))
	wantFine(t, pair(api.Func{Locals: list}, api.Func{}))
	for _, c := range [][2]api.Func{
		{{Params: 2, Locals: list}, {Params: 3, Locals: list}},
		{{Params: 3, Locals: list}, {Params: 2, Locals: list}},
		{{Params: 1, Locals: []int{ptr(0)}}, {Params: 1, Locals: []int{stays(ptr(0))}}},
		{{Params: 1, Locals: []int{stays(ptr(0))}}, {Params: 1, Locals: []int{ptr(0)}}},
		{{Params: 2, Locals: []int{word, some}}, {Params: 2, Locals: []int{some, word}}},
		{{Results: list}, {Results: list[:2]}},
		{{Results: list[:2]}, {Results: list}},
		{{Results: []int{word, some}}, {Results: []int{some, word}}},
		{{Results: []int{ptr(0)}}, {Results: []int{arr(0)}}},
	} {
		wantFault(t, pair(c[0], c[1]), 0, 0, api.ErrForms)
	}
}

// There is a function at all, whatever else there is.
func TestNoFunctionAtAll(t *testing.T) {
	wantFault(t, api.Prog{}, 0, 0, api.ErrForms)
	wantFault(t, api.Prog{Types: []api.Layout{}, Funcs: []api.Func{}, Tables: [][]int{}, Strs: []string{}}, 0, 0, api.ErrForms)
	p := world()
	p.Funcs, p.Tables = nil, nil
	wantFault(t, p, 0, 0, api.ErrForms)
	p.Tables = [][]int{{0}}
	wantFault(t, p, 0, 0, api.ErrForms)
}
