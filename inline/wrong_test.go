package inline_test

import (
	"maps"
	"reflect"
	"slices"
	"sync"
	"testing"

	"halyard/api"
	"halyard/inline"
	"halyard/sample"
)

// R1: nothing at all, as nil and as empty lists.
func TestNothing(t *testing.T) {
	for _, h := range []api.Hier{
		{},
		{Classes: []api.Class{}, Ifaces: [][]string{}, Sites: []api.Site{}},
		{Classes: []api.Class{{}, {Methods: []string{}, Funcs: []int{}}}, Ifaces: [][]string{nil, {}, {"a"}}},
	} {
		for _, sizes := range [][]int{nil, {}, rising(3)[:0]} {
			wantPlan(t, h, sizes, 0, 0, nil, nil)
			wantPlan(t, h, sizes, bound, bound, nil, nil)
			wantError(t, h, sizes, -1, 0, api.ErrArg)
			wantError(t, h, sizes, 0, bound+1, api.ErrArg)
		}
		wantError(t, h, []int{1}, 0, 0, api.ErrForm)
		wantError(t, h, []int{0}, -1, -1, api.ErrForm)
		h.Funcs = 1
		wantPlan(t, h, []int{1}, 0, 0, nil, []int{1})
		wantError(t, h, nil, 0, 0, api.ErrForm)
		wantError(t, h, []int{}, 0, 0, api.ErrForm)
	}
}

// inRoom: what is given, with all lists in room.
func inRoom(g given) given {
	g.h, g.sizes = sample.HierInRoom(g.h), sample.InRoom(2, g.sizes)
	return g
}

// all: what is right and what is wrong.
func all() []given {
	list := []given{fine(), {h: example(), sizes: []int{10, 3, 5}, budget: 6, most: 100}, {}}
	for _, faults := range []map[string]change{unformed(), missized(), beyond()} {
		for _, do := range faults {
			g := fine()
			do(&g)
			list = append(list, g)
		}
	}
	return list
}

// R4: nothing that is given is changed, spare room included, be it right or wrong; nor does spare room matter.
func TestNothingIsChanged(t *testing.T) {
	for _, g := range all() {
		wantSites, wantAfter, want := inline.Plan(g.h, g.sizes, g.budget, g.most)
		r := inRoom(g)
		old, oldSizes := sample.HierOpened(r.h), slices.Clone(sample.Spare(r.sizes))
		sites, after, e := inline.Plan(r.h, r.sizes, r.budget, r.most)
		if e != want || !slices.Equal(sites, wantSites) || !slices.Equal(after, wantAfter) {
			t.Errorf("%+v: %v, %v, %d, with spare room %v, %v, %d", g, wantSites, wantAfter, want, sites, after, e)
		}
		if !reflect.DeepEqual(sample.HierOpened(r.h), old) || !slices.Equal(sample.Spare(r.sizes), oldSizes) {
			t.Errorf("%+v was changed", g)
		}
	}
}

// R4: the answers share nothing with what was handed in, with one another, or with another answer. None of the sites is inlined, some, all.
func TestAnswersAreNew(t *testing.T) {
	for _, budget := range []int{0, 6, 100} {
		g := inRoom(given{h: example(), sizes: []int{10, 3, 5}, budget: budget, most: 100})
		old, oldSizes := sample.HierOpened(g.h), slices.Clone(sample.Spare(g.sizes))
		wantSites, wantAfter, _ := inline.Plan(example(), []int{10, 3, 5}, budget, 100)
		sites, after, _ := inline.Plan(g.h, g.sizes, budget, 100)
		again, later, _ := inline.Plan(g.h, g.sizes, budget, 100)
		if !sample.Apart([][]int{sites, after}) {
			t.Error("the answers are one")
		}
		if !slices.Equal(again, wantSites) || !slices.Equal(later, wantAfter) {
			t.Errorf("the second answer hangs on the first: %v, %v", again, later)
		}
		if !reflect.DeepEqual(sample.HierOpened(g.h), old) || !slices.Equal(sample.Spare(g.sizes), oldSizes) {
			t.Error("what was handed in hangs on the answer")
		}
		clear(sample.Spare(g.sizes))
		clear(sample.Spare(g.h.Sites))
		if !slices.Equal(again, wantSites) || !slices.Equal(later, wantAfter) {
			t.Errorf("the answer hangs on what was handed in: %v, %v", again, later)
		}
	}
}

// R4: the sizes may be a list of the Hier too.
func TestSharedLists(t *testing.T) {
	list := []int{1, 2, 1}
	h := example()
	h.Classes = []api.Class{class(list, "a", "b", "c"), class(list[1:], "a", "b")}
	wantPlan(t, h, list, much, much, []int{1, 0, 2}, []int{2, 2, 2})
	if !slices.Equal(list, []int{1, 2, 1}) {
		t.Errorf("changed: %v", list)
	}
}

// R5: nothing is kept, be the other call of something else or wrong; and calls at the same time do not meet.
func TestNothingIsKept(t *testing.T) {
	g := fine()
	faults := slices.Collect(maps.Values(missized()))
	var group sync.WaitGroup
	for range 8 {
		group.Go(func() {
			for _, do := range faults {
				bad := fine()
				do(&bad)
				wantError(t, bad.h, bad.sizes, bad.budget, bad.most, api.ErrForm)
				wantPlan(t, g.h, g.sizes, g.budget, g.most, []int{2, 1}, []int{14, 5, 1, 4})
				wantError(t, g.h, g.sizes, -1, 1, api.ErrArg)
				wantPlan(t, example(), []int{10, 3, 5}, 6, 100, []int{0, 2}, []int{12, 3, 7})
			}
		})
	}
	group.Wait()
}
