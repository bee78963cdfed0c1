package maps_test

import (
	"slices"
	"testing"

	"halyard/api"
	"halyard/maps"
)

// Limits, and one beyond: types, fields, functions, locals.
func TestLimits(t *testing.T) {
	last := api.MaxTypes - 1
	full := slices.Repeat([]int{word, arr(last)}, api.MaxLocals/2)
	p := api.Prog{
		Types: slices.Repeat([]api.Layout{{Fields: full}}, api.MaxTypes),
		Funcs: slices.Repeat([]api.Func{{Locals: full, Code: []api.Instr{in(api.OpNew, last), halt}}}, api.MaxFuncs),
	}
	for _, n := range []int{0, last} {
		if list, e := maps.Layout(p, n); e != api.OK || !slices.Equal(list, slices.Repeat(bits("01"), api.MaxLocals/2)) {
			t.Errorf("Layout of %d: %d, %d", n, len(list), e)
		}
	}
	for _, n := range []int{0, api.MaxFuncs - 1} {
		if list, e := maps.Of(p, n); e != api.OK || len(list) != 1 || !slices.Equal(list[0].Locals, slices.Repeat(bits("01"), api.MaxLocals/2)) {
			t.Errorf("Of %d: %d, %d", n, len(list), e)
		}
	}
	if _, e := maps.Layout(p, last+1); e != api.ErrNone {
		t.Errorf("Layout: %d", e)
	}
	if _, e := maps.Of(p, api.MaxFuncs); e != api.ErrNone {
		t.Errorf("Of: %d", e)
	}
	for _, do := range []func(q *api.Prog){
		func(q *api.Prog) { q.Types = append(slices.Clone(q.Types), api.Layout{Fields: full}) },
		func(q *api.Prog) { q.Types = []api.Layout{{Fields: append(slices.Clone(full), word)}} },
		func(q *api.Prog) { q.Funcs = append(slices.Clone(q.Funcs), q.Funcs[0]) },
		func(q *api.Prog) {
			q.Funcs = []api.Func{{Locals: append(slices.Clone(full), word), Code: []api.Instr{halt}}}
		},
		func(q *api.Prog) { q.Funcs = []api.Func{{Code: slices.Repeat([]api.Instr{halt}, api.MaxCode+1)}} },
	} {
		q := p
		do(&q)
		wantError(t, q, api.ErrForm)
	}
}

// The longest code, all of safepoints, and gone through from the last on.
func TestLongCode(t *testing.T) {
	list := slices.Repeat([]api.Instr{in(api.OpCall, 3)}, api.MaxCode)
	list[api.MaxCode-1] = halt
	got, e := maps.Of(plain(list...), 0)
	if e != api.OK || len(got) != api.MaxCode-1 {
		t.Fatalf("%d maps, %d", len(got), e)
	}
	for at, m := range got {
		if m.At != at || len(m.Stack)+len(m.Locals) != 0 {
			t.Fatalf("map %d: %+v", at, m)
		}
	}
	const n = 1000
	list = []api.Instr{in(api.OpJump, 2*n), halt}
	for i := 1; i <= n; i++ {
		list = append(list, in(api.OpCall, 3), in(api.OpJump, 2*i-2))
	}
	got, e = maps.Of(plain(list...), 0)
	if e != api.OK || len(got) != n {
		t.Fatalf("%d maps, %d", len(got), e)
	}
	for i, m := range got {
		if m.At != 2*i+2 {
			t.Fatalf("map %d: %+v", i, m)
		}
	}
}

// Deep stacks with all that puts and takes several kinds at once.
func TestDeepStacks(t *testing.T) {
	const n = 500
	four := bits("0111")
	results := []int{word, some, ptr(1), arr(6)}
	p := plain(slices.Concat(slices.Repeat([]api.Instr{in(api.OpCall, 6)}, n), slices.Repeat([]api.Instr{in(api.OpCall, 7)}, n), []api.Instr{halt})...)
	p.Funcs = append(p.Funcs, api.Func{Results: results, Code: []api.Instr{halt}}, api.Func{Params: 4, Locals: results, Code: []api.Instr{halt}})
	got, e := maps.Of(p, 0)
	if e != api.OK || len(got) != 2*n {
		t.Fatalf("%d maps, %d", len(got), e)
	}
	for i, m := range got {
		if !slices.Equal(m.Stack, slices.Repeat(four, min(i, 2*n-i))) {
			t.Fatalf("map %d: %d kinds", i, len(m.Stack))
		}
	}
}

// Stacks that are far deeper than could be written out for each instruction, where the maps are few: 200 calls put 4096 kinds each, and 60000 instructions go on upon these.
func TestVeryDeepStack(t *testing.T) {
	const calls = 200
	p := plain(slices.Concat(slices.Repeat([]api.Instr{in(api.OpCall, 6)}, calls), slices.Repeat([]api.Instr{in(api.OpInt), in(api.OpPop)}, 30000), []api.Instr{in(api.OpNew), halt})...)
	p.Funcs = append(p.Funcs, api.Func{Results: slices.Repeat([]int{word, some, ptr(1), arr(6)}, api.MaxLocals/4), Code: []api.Instr{halt}})
	got, e := maps.Of(p, 0)
	if e != api.OK || len(got) != calls+1 || got[calls].At != calls+60000 {
		t.Fatalf("%d maps, %d", len(got), e)
	}
	for i, m := range got {
		if !slices.Equal(m.Stack, slices.Repeat(bits("0111"), i*api.MaxLocals/4)) {
			t.Fatalf("map %d: %d kinds", i, len(m.Stack))
		}
	}
	deep := slices.Repeat([]api.Instr{in(api.OpInt)}, api.MaxCode)
	deep[api.MaxCode-1] = halt
	wantOf(t, plain(deep...), 0)
}
