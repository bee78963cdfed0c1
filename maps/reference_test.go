package maps_test

import (
	"reflect"
	"slices"
	"testing"

	"halyard/api"
	"halyard/maps"
	"halyard/verify"
)

// differing: which of these kinds are not Word.
func differing(kinds []int) []bool {
	var list []bool
	for _, kind := range kinds {
		list = append(list, kind != api.Word)
	}
	return list
}

// mapped: a second way, by the chapter's words as they stand: of what layer 11's Stacks answers.
func mapped(p api.Prog, f int) ([]api.Map, api.Errno) {
	stacks, come, e := verify.Stacks(p, f)
	var list []api.Map
	for at, is := range come {
		op := p.Funcs[f].Code[at].Op
		if is && slices.Contains([]int{api.OpNew, api.OpMake, api.OpBox, api.OpStr, api.OpCall, api.OpDyn}, op) {
			list = append(list, api.Map{At: at, Locals: differing(p.Funcs[f].Locals), Stack: differing(stacks[at])})
		}
	}
	return list, e
}

// laidOut: a second way for Layout.
func laidOut(p api.Prog, t int) ([]bool, api.Errno) {
	if _, _, e := verify.Check(p); e != api.OK {
		return nil, e
	}
	for i, l := range p.Types {
		if i == t {
			return differing(l.Fields), api.OK
		}
	}
	return nil, api.ErrNone
}

// same: lists in lists are those of one answer, nil or empty.
func same(a, b []api.Map) bool {
	return slices.EqualFunc(a, b, func(x, y api.Map) bool {
		return x.At == y.At && slices.Equal(x.Locals, y.Locals) && slices.Equal(x.Stack, y.Stack)
	})
}

// hold: both calls of all functions and types of a program, and of those beside them, are as in the second way. It tells Check's error and how many maps there are.
func hold(t *testing.T, p api.Prog) (api.Errno, int) {
	t.Helper()
	many := 0
	for f := -1; f <= len(p.Funcs); f++ {
		got, e := maps.Of(p, f)
		want, err := mapped(p, f)
		if !same(got, want) || e != err {
			t.Fatalf("Of %d: %v, %d; want %v, %d; %+v", f, told(got), e, told(want), err, p)
		}
		many += len(got)
	}
	for n := -1; n <= len(p.Types); n++ {
		got, e := maps.Layout(p, n)
		want, err := laidOut(p, n)
		if !slices.Equal(got, want) || e != err {
			t.Fatalf("Layout of %d: %v, %d; want %v, %d; %+v", n, got, e, want, err, p)
		}
	}
	_, _, e := verify.Check(p)
	return e, many
}

// choices: numbers that A or B of an instruction may be in the world.
func choices() []int {
	list := []int{-1, 0, 1, 2, 3, 4, 5, 6, 7}
	for n := range fields() {
		list = append(list, ptr(n), arr(n), stays(ptr(n)), stays(arr(n)))
	}
	return slices.Compact(slices.Sorted(slices.Values(list)))
}

// Each instruction, with all A and some B, behind all stacks of up to two kinds, and a map behind it.
func TestAllSteps(t *testing.T) {
	kinds := append(locals(), ptr(0), arr(5), stays(ptr(5)), ptr(5))
	aheads := [][]int{nil}
	for _, low := range kinds {
		aheads = append(aheads, []int{low})
		for _, high := range kinds {
			aheads = append(aheads, []int{low, high})
		}
	}
	fine, one := 0, make([]int, api.OpStr+1)
	for op := api.OpInt; op <= api.OpStr; op++ {
		for _, a := range choices() {
			for _, ahead := range aheads {
				for b := 0; b < 7; b++ {
					if b > 0 && op != api.OpAddr && op != api.OpStr {
						break
					}
					p := world(append(pushed(ahead...), in(op, a, b), in(api.OpNew), halt)...)
					got, e := maps.Of(p, 0)
					if want, err := mapped(p, 0); e != err || !same(got, want) {
						t.Fatalf("%v behind %v: %v, %d; want %v, %d", in(op, a, b), ahead, told(got), e, told(want), err)
					}
					if e == api.OK {
						fine++
						one[op]++
					}
				}
			}
		}
	}
	if fine < 10000 || slices.Contains(one[1:], 0) {
		t.Errorf("%d were sound: %v", fine, one)
	}
}

// The second way tells the document's numbers too.
func TestReference(t *testing.T) {
	p := plain(in(api.OpNil, some), in(api.OpNew), halt, in(api.OpNew))
	want := []api.Map{{At: 1, Stack: []bool{true}}}
	if got, e := mapped(p, 0); e != api.OK || !reflect.DeepEqual(got, want) {
		t.Errorf("%v, %d", got, e)
	}
	hold(t, p)
}
