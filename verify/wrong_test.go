package verify_test

import (
	"math"
	"reflect"
	"slices"
	"strings"
	"sync"
	"testing"

	"halyard/api"
	"halyard/sample"
	"halyard/verify"
)

// P11.1: a program beyond a limit is ErrForm at 0, 0, wherever that is, and whatever else is wrong with it.
func TestUnsound(t *testing.T) {
	for _, do := range []func(p *api.Prog){
		func(p *api.Prog) { p.Types = slices.Repeat([]api.Layout{{Fields: []int{word}}}, api.MaxTypes+1) },
		func(p *api.Prog) { p.Types[3].Fields = make([]int, api.MaxLocals+1) },
		func(p *api.Prog) {
			p.Funcs = slices.Repeat([]api.Func{{Code: []api.Instr{halt}}}, api.MaxFuncs+1)
			p.Tables = nil
		},
		func(p *api.Prog) { p.Funcs[4].Locals = make([]int, api.MaxLocals+1) },
		func(p *api.Prog) { p.Funcs[4].Results = make([]int, api.MaxLocals+1) },
		func(p *api.Prog) { p.Funcs[4].Areas = make([]int, api.MaxLocals+1) },
		func(p *api.Prog) { p.Funcs[4].Params = -1 },
		func(p *api.Prog) { p.Funcs[4].Params = 3 },
		func(p *api.Prog) { p.Funcs[4].Params = math.MaxInt },
		func(p *api.Prog) { p.Funcs[4].Params = math.MinInt },
		func(p *api.Prog) { p.Funcs[4].Code = slices.Repeat([]api.Instr{halt}, api.MaxCode+1) },
		func(p *api.Prog) { p.Tables = slices.Repeat([][]int{{1}}, api.MaxTypes+1) },
		func(p *api.Prog) { p.Tables[1] = slices.Repeat([]int{2}, api.MaxFuncs+1) },
		func(p *api.Prog) { p.Strs = make([]string, api.MaxTypes+1) },
		func(p *api.Prog) { p.Strs[1] = strings.Repeat("a", api.MaxLen+1) },
	} {
		p := world(halt)
		do(&p)
		wantFault(t, p, 0, 0, api.ErrForm)
		p.Types, p.Tables = append([]api.Layout{{}}, p.Types...), append([][]int{nil}, p.Tables...)
		p.Funcs[1].Code = []api.Instr{in(api.OpOut)}
		wantFault(t, p, 0, 0, api.ErrForm)
	}
	for _, op := range []int{0, -1, 30, 31, math.MaxInt, math.MinInt} {
		p := world(halt, in(op))
		wantFault(t, p, 0, 0, api.ErrForm)
		p = world(halt)
		p.Funcs[5].Code = append(p.Funcs[5].Code, in(op))
		wantFault(t, p, 0, 0, api.ErrForm)
	}
}

// calling is code that has to do with every list of the program.
func calling() []api.Instr {
	return slices.Concat(
		pushed(ptr(1), some, arr(0)), []api.Instr{in(api.OpCall, 2), in(api.OpPop), in(api.OpPop)},
		pushed(ptr(1), some, arr(0), word), []api.Instr{in(api.OpDyn, 1), in(api.OpInt), in(api.OpElem), in(api.OpLoad), in(api.OpOut), in(api.OpPop)},
		[]api.Instr{in(api.OpArea, 2), in(api.OpLoad, 1), in(api.OpDup), in(api.OpSame), in(api.OpIf, 0), in(api.OpStr, 1, 0), halt})
}

// R4: no call changes what it is given, spare room included, be it sound or not.
func TestNothingIsChanged(t *testing.T) {
	for k, list := range [][]api.Instr{calling(), {in(api.OpDyn, 1), halt}, {in(api.OpOut)}, {}} {
		p := sample.ProgInRoom(world(list...))
		old := sample.ProgOpened(p)
		if _, _, e := verify.Check(p); (e == api.OK) != (k == 0) {
			t.Errorf("program %d: %d", k, e)
		}
		verify.Stacks(p, 0)
		verify.Size(p, 0)
		verify.Stacks(p, 2)
		verify.Stacks(p, -1)
		if !reflect.DeepEqual(sample.ProgOpened(p), old) {
			t.Errorf("program %d was changed", k)
		}
	}
}

// R4: what Stacks answers is new: it shares nothing with the program, nor with another answer, nor do its lists with one another.
func TestAnswersAreNew(t *testing.T) {
	p := sample.ProgInRoom(world(calling()...))
	old := sample.ProgOpened(p)
	want, _, _ := verify.Stacks(p, 0)
	want = slices.Clone(want)
	for i := range want {
		want[i] = slices.Clone(want[i])
	}
	first, come, e := verify.Stacks(p, 0)
	again, _, _ := verify.Stacks(p, 0)
	if e != api.OK || !slices.Contains(come, true) {
		t.Fatalf("Stacks: %v, %v, %d", first, come, e)
	}
	if !sample.Apart(first) {
		t.Errorf("lists share room: %v", first)
	}
	clear(sample.Spare(come))
	if !reflect.DeepEqual(sample.ProgOpened(p), old) {
		t.Error("the program hangs on the answer")
	}
	if !slices.EqualFunc(again, want, slices.Equal[[]int]) {
		t.Errorf("the second answer hangs on the first: %v, want %v", again, want)
	}
	for i := range p.Funcs {
		clear(sample.Spare(p.Funcs[i].Results))
		clear(sample.Spare(p.Funcs[i].Locals))
	}
	if !slices.EqualFunc(again, want, slices.Equal[[]int]) {
		t.Errorf("the answer hangs on the program: %v, want %v", again, want)
	}
}

// R4: one list in several places of what is handed in.
func TestSharedLists(t *testing.T) {
	list := []int{word, ptr(0), word}
	stop := []api.Instr{halt}
	f := api.Func{Params: 2, Locals: list, Results: list[:2], Code: append(pushed(list[:2]...), in(api.OpRet))}
	p := api.Prog{Types: []api.Layout{{Fields: list}, {Fields: list[2:]}}, Funcs: []api.Func{{Locals: list, Areas: list[2:], Code: stop}, f, f}, Tables: [][]int{{1, 2}, {0}}}
	wantFine(t, p)
	wantStacks(t, p, 2, nil, list[:1], list[:2])
	wantSize(t, p, 0, 3+3)
}

// R5: a call that fails, or that is of another program, changes no later one; and calls at the same time do not meet.
func TestNothingIsKept(t *testing.T) {
	p, q := world(calling()...), world(in(api.OpInt), in(api.OpNil, some), in(api.OpOut))
	want, _, _ := verify.Stacks(p, 0)
	size, _ := verify.Size(p, 0)
	var all sync.WaitGroup
	for range 8 {
		all.Go(func() {
			for range 50 {
				if f, at, e := verify.Check(q); f != 0 || at != 2 || e != api.ErrKind {
					t.Errorf("Check: %d at %d, %d", e, f, at)
				}
				if got, _, e := verify.Stacks(p, 0); e != api.OK || !reflect.DeepEqual(got, want) {
					t.Errorf("Stacks: %v, %d", got, e)
				}
				if n, e := verify.Size(p, 0); n != size || e != api.OK {
					t.Errorf("Size: %d, %d", n, e)
				}
			}
		})
	}
	all.Wait()
}
