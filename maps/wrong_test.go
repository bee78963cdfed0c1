package maps_test

import (
	"reflect"
	"slices"
	"sync"
	"testing"

	"halyard/api"
	"halyard/maps"
	"halyard/sample"
)

// calling is code that has to do with every list of the program.
func calling() []api.Instr {
	return slices.Concat(
		pushed(ptr(1), some, arr(0)), []api.Instr{in(api.OpCall, 2), in(api.OpPop), in(api.OpPop)},
		pushed(ptr(1), some, arr(0), word), []api.Instr{in(api.OpDyn, 1), in(api.OpInt), in(api.OpElem), in(api.OpLoad), in(api.OpOut), in(api.OpPop)},
		[]api.Instr{in(api.OpArea, 2), in(api.OpLoad, 1), in(api.OpDup), in(api.OpSame), in(api.OpIf, 0), in(api.OpStr, 1, 0), in(api.OpGet, 2), in(api.OpBox), halt})
}

// called is what is told of it.
func called() []string {
	return []string{"3 011111 111", "10 011111 1110", "21 011111 ", "23 011111 11"}
}

func TestCalling(t *testing.T) {
	wantOf(t, world(calling()...), 0, called()...)
}

// R4: no call changes what it is given, spare room included, be it sound or not.
func TestNothingIsChanged(t *testing.T) {
	for k, list := range [][]api.Instr{calling(), {in(api.OpDyn, 1), halt}, {in(api.OpOut)}, {}} {
		p := sample.ProgInRoom(world(list...))
		old := sample.ProgOpened(p)
		for n := -1; n < 8; n++ {
			if _, e := maps.Of(p, n); e == api.OK && k > 0 {
				t.Errorf("program %d is sound", k)
			}
			maps.Layout(p, n)
		}
		if !reflect.DeepEqual(sample.ProgOpened(p), old) {
			t.Errorf("program %d was changed", k)
		}
	}
}

// lists: all lists of an answer.
func lists(answer []api.Map) [][]bool {
	var all [][]bool
	for _, m := range answer {
		all = append(all, m.Locals, m.Stack)
	}
	return all
}

// R4: no two lists of one answer share any memory: each one's whole room is turned round once, and is turned round then.
func TestListsAreApart(t *testing.T) {
	turn := func(list []bool) {
		for i := range list {
			list[i] = !list[i]
		}
	}
	p := plain(calling()...)
	p.Funcs[0].Locals = []int{word, some, ptr(1)}
	answer, e := maps.Of(p, 0)
	if e != api.OK || len(answer) != 4 {
		t.Fatalf("%v, %d", answer, e)
	}
	var old [][]bool
	for _, list := range lists(answer) {
		old = append(old, slices.Clone(sample.Spare(list)))
	}
	for _, list := range lists(answer) {
		turn(sample.Spare(list))
	}
	for i, list := range lists(answer) {
		turn(old[i])
		if !slices.Equal(sample.Spare(list), old[i]) {
			t.Errorf("list %d shares room with another: %v, want %v", i, list, old[i])
		}
	}
}

// R4: what is answered is new: it shares nothing with the program, nor with another answer.
func TestAnswersAreNew(t *testing.T) {
	p := sample.ProgInRoom(world(calling()...))
	old := sample.ProgOpened(p)
	first, _ := maps.Of(p, 0)
	again, _ := maps.Of(p, 0)
	layout, _ := maps.Layout(p, 5)
	other, _ := maps.Layout(p, 5)
	for _, list := range append(lists(first), layout) {
		for i := range sample.Spare(list) {
			sample.Spare(list)[i] = false
		}
	}
	clear(sample.Spare(first))
	if !reflect.DeepEqual(sample.ProgOpened(p), old) {
		t.Error("the program hangs on the answer")
	}
	if !slices.Equal(told(again), called()) || shown(other) != "1110" {
		t.Errorf("the second answers hang on the first: %v, %v", told(again), other)
	}
	for i := range p.Funcs {
		clear(sample.Spare(p.Funcs[i].Results))
		clear(sample.Spare(p.Funcs[i].Locals))
		clear(sample.Spare(p.Funcs[i].Code))
	}
	for i := range p.Types {
		clear(sample.Spare(p.Types[i].Fields))
	}
	if !slices.Equal(told(again), called()) || shown(other) != "1110" {
		t.Errorf("the answers hang on the program: %v, %v", told(again), other)
	}
}

// R4: one list in several places of what is handed in, and lists with something else behind their ends.
func TestSharedLists(t *testing.T) {
	list := []int{word, ptr(0), word}
	f := api.Func{Params: 2, Locals: list, Results: list[:2], Code: append(pushed(list[:2]...), in(api.OpCall, 2), in(api.OpRet))}
	p := api.Prog{Types: []api.Layout{{Fields: list}, {Fields: list[2:]}}, Funcs: []api.Func{{Locals: list, Areas: list[2:], Code: []api.Instr{in(api.OpNew), halt}}, f, f}, Tables: [][]int{{1, 2}, {0}}}
	wantOf(t, p, 0, "0 010 ")
	wantOf(t, p, 1, "2 010 01")
	wantOf(t, p, 2, "2 010 01")
	wantLayout(t, p, 0, "010")
	wantLayout(t, p, 1, "0")
	hold(t, sample.ProgInRoom(p))
}

// R5: a call that fails, or that is of another program, changes no later one; and calls at the same time do not meet.
func TestNothingIsKept(t *testing.T) {
	p, q := world(calling()...), world(in(api.OpInt), in(api.OpNil, some), in(api.OpOut))
	var all sync.WaitGroup
	for range 8 {
		all.Go(func() {
			for range 50 {
				if list, e := maps.Of(q, 0); len(list) != 0 || e != api.ErrKind {
					t.Errorf("Of: %v, %d", list, e)
				}
				if list, e := maps.Of(p, 0); e != api.OK || !slices.Equal(told(list), called()) {
					t.Errorf("Of: %v, %d", told(list), e)
				}
				if list, e := maps.Layout(p, 1); e != api.OK || shown(list) != "01" {
					t.Errorf("Layout: %v, %d", list, e)
				}
			}
		})
	}
	all.Wait()
}
