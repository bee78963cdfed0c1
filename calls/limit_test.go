package calls_test

import (
	"slices"
	"strconv"
	"testing"

	"halyard/api"
	"halyard/calls"
)

// chain: each function calls the next one, by a step that may be below 0.
func chain(funcs, step int) api.Hier {
	h := api.Hier{Funcs: funcs}
	for f := range funcs {
		if to := f + step; to >= 0 && to < funcs {
			h.Sites = append(h.Sites, call(f, to))
		}
	}
	return h
}

// alone: groups of one.
func alone(list []int) [][]int {
	var groups [][]int
	for _, f := range list {
		groups = append(groups, []int{f})
	}
	return groups
}

// rising: the numbers 0 to count - 1.
func rising(count int) []int {
	list := make([]int, count)
	for i := range list {
		list[i] = i
	}
	return list
}

// MaxFuncs: long chains and rings, which are gone through to their ends.
func TestMostFuncs(t *testing.T) {
	all := rising(api.MaxFuncs)
	down := slices.Clone(all)
	slices.Reverse(down)
	wantGroups(t, direct(api.MaxFuncs), alone(all)...)
	wantGroups(t, chain(api.MaxFuncs, -1), alone(all)...)
	wantGroups(t, chain(api.MaxFuncs, 1), alone(down)...)
	wantReach(t, chain(api.MaxFuncs, 1), 0, all...)
	wantReach(t, chain(api.MaxFuncs, 1), 1, all[1:]...)
	wantReach(t, chain(api.MaxFuncs, -1), 0, 0)
	wantReach(t, chain(api.MaxFuncs, -1), api.MaxFuncs-1, all...)
	ring := chain(api.MaxFuncs, 1)
	ring.Sites = append(ring.Sites, call(api.MaxFuncs-1, 0))
	wantGroups(t, ring, all)
	wantReach(t, ring, 17, all...)
	ring.Sites = append(ring.Sites[:api.MaxFuncs-1], call(api.MaxFuncs-1, 1))
	wantGroups(t, ring, all[1:], all[:1])
}

// MaxTokens: sites that are all alike, or of which the last one alone matters.
func TestMostSites(t *testing.T) {
	h := direct(3)
	h.Sites = slices.Repeat([]api.Site{call(0, 2)}, api.MaxTokens)
	wantGroups(t, h, []int{1}, []int{2}, []int{0})
	wantReach(t, h, 0, 0, 2)
	h.Sites[api.MaxTokens-1] = call(2, 0)
	wantGroups(t, h, []int{0, 2}, []int{1})
	wantReach(t, h, 2, 0, 2)
	list, e := calls.Targets(h)
	if e != api.OK || len(list) != api.MaxTokens || !slices.Equal(list[api.MaxTokens-2], []int{2}) || !slices.Equal(list[api.MaxTokens-1], []int{0}) {
		t.Errorf("Targets: %d lists, %d", len(list), e)
	}
	h.Sites = append(h.Sites, call(0, 0))
	wantError(t, h, api.ErrLarge)
}

// MaxTypes: the last class and the last interface are looked at as the first ones are.
func TestMostClasses(t *testing.T) {
	h := api.Hier{Funcs: api.MaxTypes, Ifaces: make([][]string, api.MaxTypes)}
	for i := range api.MaxTypes {
		h.Classes = append(h.Classes, class([]int{i}, "m"))
	}
	h.Ifaces[api.MaxTypes-1] = []string{"m"}
	h.Sites = []api.Site{ask(5, api.MaxTypes-1, "m")}
	all := rising(api.MaxTypes)
	wantTargets(t, h, all)
	wantReach(t, h, 5, all...)
	wantGroups(t, h, append(alone(all[:5]), append(alone(all[6:]), []int{5})...)...)
	wantDevirt(t, h, h)
	for i := range h.Classes {
		h.Classes[i].Funcs = []int{9}
	}
	want := h
	want.Sites = []api.Site{call(5, 9)}
	wantDevirt(t, h, want)
	h.Classes = append(h.Classes, api.Class{})
	wantError(t, h, api.ErrLarge)
	h.Classes, h.Ifaces = h.Classes[:3], append(h.Ifaces, nil)
	wantError(t, h, api.ErrLarge)
}

// No limit is named for how many methods a class or an interface has.
func TestManyMethods(t *testing.T) {
	const many = api.MaxTokens + 1
	names := make([]string, many)
	for i := range names {
		names[i] = "m" + strconv.Itoa(i)
	}
	funcs := make([]int, many)
	funcs[many-1] = 2
	h := api.Hier{Funcs: 3, Classes: []api.Class{class(funcs, names...), class(funcs[:many-1], names[:many-1]...)}, Ifaces: [][]string{names, names[:many-1], names[1:]}}
	h.Sites = []api.Site{ask(1, 0, names[many-1]), ask(1, 0, names[0]), ask(1, 1, names[7]), ask(1, 2, names[many-1])}
	wantTargets(t, h, []int{2}, []int{0}, []int{0}, []int{2})
	h.Sites = []api.Site{ask(0, 1, names[many-1])}
	wantError(t, h, api.ErrForm)
	h.Sites = nil
	h.Ifaces[0] = append(slices.Clone(names), names[0])
	wantError(t, h, api.ErrForm)
}

// All limits at once: each class satisfies each interface, and each site may call each class.
func TestAllAtTheLimits(t *testing.T) {
	h := api.Hier{Funcs: api.MaxFuncs}
	for i := range api.MaxTypes {
		h.Classes = append(h.Classes, class([]int{4 * i, 4*i + 1, 4*i + 2}, "a", "b", "c"))
		h.Ifaces = append(h.Ifaces, [][]string{{"a", "b"}, {"c", "a"}}[i%2])
	}
	for i := range api.MaxTokens {
		h.Sites = append(h.Sites, ask(i%3, i%api.MaxTypes, "a"))
	}
	list, e := calls.Targets(h)
	if e != api.OK || len(list) != api.MaxTokens {
		t.Fatalf("Targets: %d, %d", len(list), e)
	}
	for i, one := range list {
		if len(one) != api.MaxTypes || one[0] != 0 || one[api.MaxTypes-1] != api.MaxFuncs-4 {
			t.Fatalf("Targets of site %d: %d", i, len(one))
		}
	}
	all := rising(api.MaxFuncs)
	wantGroups(t, h, alone(slices.Concat(all[3:api.MaxFuncs-3], all[:3], all[api.MaxFuncs-3:]))...)
}
