package maps_test

import (
	"math"
	"slices"
	"testing"

	"halyard/api"
	"halyard/maps"
)

// flaw is a fault: which error it is, and what makes it.
type flaw struct {
	e    api.Errno
	make func(p *api.Prog)
}

// flaws are such as do not hide one another, the one that is told first ahead: those of the whole program, of the heads, of the functions' code.
func flaws() []flaw {
	return []flaw{
		{api.ErrForm, func(p *api.Prog) { p.Funcs[3].Params = -1 }},
		{api.ErrForms, func(p *api.Prog) { p.Types[6].Fields = nil }},
		{api.ErrForms, func(p *api.Prog) { p.Funcs[1].Areas = []int{-1} }},
		{api.ErrForms, func(p *api.Prog) { p.Tables = append(p.Tables, nil) }},
		{api.ErrKind, func(p *api.Prog) { p.Funcs[0].Code[1] = in(api.OpTag) }},
		{api.ErrJump, func(p *api.Prog) { p.Funcs[0].Code[3] = in(api.OpJump, 9) }},
		{api.ErrStack, func(p *api.Prog) { p.Funcs[2].Code[1] = in(api.OpRet) }},
		{api.ErrRange, func(p *api.Prog) { p.Funcs[5].Code[1] = in(api.OpNil, 0) }},
	}
}

// P19.1, P19.2: each error of Check, alone and with each that is told behind it.
func TestErrors(t *testing.T) {
	for i, first := range flaws() {
		for _, other := range flaws()[i:] {
			p := world(in(api.OpInt), in(api.OpOut), in(api.OpNew), in(api.OpJump, 4), halt)
			wantOf(t, p, 0, "2 011111 ")
			other.make(&p)
			first.make(&p)
			wantError(t, p, first.e)
		}
	}
}

// P19.1: a fault of any function is told of all, and a fault of what is not come to of none.
func TestFaultElsewhere(t *testing.T) {
	for f := range 6 {
		p := world(in(api.OpNew), halt)
		p.Funcs[f].Code = []api.Instr{in(api.OpHalt), in(api.OpOut)}
		if _, e := maps.Of(p, 0); e != api.OK {
			t.Errorf("Of: %d", e)
		}
		wantLayout(t, p, 1, "01")
		p.Funcs[f].Code[0] = in(api.OpInt)
		wantError(t, p, api.ErrJump)
		p.Funcs[f].Code[0] = in(api.OpNew, 7)
		wantError(t, p, api.ErrRange)
	}
}

// P19.1, P19.2: no such function, no such type: below 0, at the end, and far from everything.
func TestNone(t *testing.T) {
	p := world(in(api.OpNew), halt)
	for _, n := range []int{-1, -2, math.MinInt, math.MaxInt, math.MinInt32, math.MaxInt32, 1 << 32, 1<<32 + 1, -1 << 32} {
		if list, e := maps.Of(p, n); len(list) != 0 || e != api.ErrNone {
			t.Errorf("Of %d: %v, %d", n, list, e)
		}
		if list, e := maps.Layout(p, n); len(list) != 0 || e != api.ErrNone {
			t.Errorf("Layout of %d: %v, %d", n, list, e)
		}
	}
	wantOf(t, p, len(p.Funcs)-1)
	wantLayout(t, p, len(p.Types)-1, "00")
	if list, e := maps.Of(p, len(p.Funcs)); len(list) != 0 || e != api.ErrNone {
		t.Errorf("Of: %v, %d", list, e)
	}
	if list, e := maps.Layout(p, len(p.Types)); len(list) != 0 || e != api.ErrNone {
		t.Errorf("Layout: %v, %d", list, e)
	}
	p.Types = slices.Concat(p.Types, p.Types[:1])
	wantLayout(t, p, 7, "0")
	if _, e := maps.Of(p, 6); e != api.ErrNone {
		t.Errorf("Of: %d", e)
	}
	small := api.Prog{Funcs: []api.Func{{Code: []api.Instr{halt}}}}
	wantOf(t, small, 0)
	if list, e := maps.Layout(small, 0); len(list) != 0 || e != api.ErrNone {
		t.Errorf("Layout: %v, %d", list, e)
	}
}

// P19.1, P19.2: programs with nothing in them, or with nothing in some list.
func TestEmpty(t *testing.T) {
	wantError(t, api.Prog{}, api.ErrForms)
	wantError(t, api.Prog{Types: []api.Layout{{Fields: []int{word}}}}, api.ErrForms)
	wantError(t, api.Prog{Types: []api.Layout{}, Funcs: []api.Func{}, Tables: [][]int{}, Strs: []string{}}, api.ErrForms)
	wantError(t, api.Prog{Funcs: []api.Func{{}}}, api.ErrForms)
	wantError(t, api.Prog{Types: []api.Layout{{}}, Funcs: []api.Func{{Code: []api.Instr{halt}}}}, api.ErrForms)
	wantError(t, api.Prog{Types: []api.Layout{{Fields: []int{stays(ptr(0))}}}, Funcs: []api.Func{{Code: []api.Instr{halt}}}}, api.ErrForms)
	for _, none := range [][]int{nil, {}} {
		fn := api.Func{Locals: none, Results: none, Areas: none, Code: []api.Instr{in(api.OpCall, 0), halt}}
		wantOf(t, api.Prog{Funcs: []api.Func{fn}}, 0, "0  ")
	}
}
