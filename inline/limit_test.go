package inline_test

import (
	"slices"
	"testing"

	"halyard/api"
	"halyard/inline"
)

// rising: the numbers 0 to count - 1.
func rising(count int) []int {
	list := make([]int, count)
	for i := range list {
		list[i] = i
	}
	return list
}

// full: functions 0 and 1 call 2 as often as makes 16384 calls, and 0 calls 3 once. A plan that inlines all grows by 1073725440, and by 3's size less 1.
func full() api.Hier {
	const times = bound / api.MaxCode
	h := direct(4, [2]int{0, 3})
	for i := range times {
		h.Sites = append(h.Sites, call(i%2, 2))
	}
	return h
}

// one: all calls are function 0's.
func one(h api.Hier) api.Hier {
	for i := range h.Sites {
		h.Sites[i].From = 0
	}
	return h
}

// A growth of just 1073741824, and one more.
func TestMostGrowth(t *testing.T) {
	h := full()
	all := rising(len(h.Sites))
	half := bound / 2
	wantLarge(t, h, []int{1, 1, api.MaxCode, 16385}, bound, bound, all, []int{half - 8192 + 16384 + 1, half - 8192 + 1, api.MaxCode, 16385})
	wantLarge(t, h, []int{1, 1, api.MaxCode, 16386}, bound, bound, all[:len(all)-1], []int{half - 8192 + 16385 + 1, half - 8192 + 1 - 65535, api.MaxCode, 16386})
	wantLarge(t, h, []int{1, 1, api.MaxCode, 16385}, bound-1, bound, all[:len(all)-1], []int{half - 8192 + 16384 + 1, half - 8192 + 1 - 65535, api.MaxCode, 16385})
}

// A size of just 1073741824, and one more.
func TestMostSize(t *testing.T) {
	h := one(full())
	all := rising(len(h.Sites))
	wantLarge(t, h, []int{1, 9, api.MaxCode, 16384}, bound, bound, all, []int{bound, 9, api.MaxCode, 16384})
	wantLarge(t, h, []int{2, 9, api.MaxCode, 16384}, bound, bound, all[:len(all)-1], []int{bound + 1 - 65535, 9, api.MaxCode, 16384})
	wantLarge(t, h, []int{1, 9, api.MaxCode, 16384}, bound, bound-1, all[:len(all)-1], []int{bound - 65535, 9, api.MaxCode, 16384})
}

// wantLarge is wantPlan without a word on what is given.
func wantLarge(t *testing.T, h api.Hier, sizes []int, budget, most int, sites, after []int) {
	t.Helper()
	gotSites, gotAfter, e := inline.Plan(h, sizes, budget, most)
	if e != api.OK || !slices.Equal(gotSites, sites) || !slices.Equal(gotAfter, after) {
		t.Errorf("Plan: %d sites, %d sizes, %d, want %d sites, %d sizes", len(gotSites), len(gotAfter), e, len(sites), len(after))
	}
}

// To has grown to just 1073741824 when its site is looked at: there is room for it no more.
func TestGreatestTo(t *testing.T) {
	h := direct(4, [2]int{0, 3})
	h.Sites = append(h.Sites, slices.Repeat([]api.Site{call(0, 2)}, bound/api.MaxCode-1)...)
	all := rising(len(h.Sites))
	h.Sites = append(h.Sites, call(1, 0))
	wantLarge(t, h, []int{api.MaxCode, 1, api.MaxCode, 16384}, bound, bound, all, []int{bound, 1, api.MaxCode, 16384})
}

// To has grown to nearly a third of the budget: it is inlined twice.
func TestGreatTo(t *testing.T) {
	const great = api.MaxCode + 5000*(api.MaxCode-1)
	h := direct(4)
	h.Sites = slices.Concat(slices.Repeat([]api.Site{call(2, 3)}, 5000), []api.Site{call(1, 2), call(0, 2), call(1, 2)})
	sizes := slices.Repeat([]int{api.MaxCode}, 4)
	after := []int{api.MaxCode + great - 1, api.MaxCode + great - 1, great, api.MaxCode}
	wantLarge(t, h, sizes, bound, bound, rising(5002), after)
	wantLarge(t, h, sizes, bound, api.MaxCode+great-1, rising(5002), after)
	wantLarge(t, h, sizes, bound, api.MaxCode+great-2, rising(5000), []int{api.MaxCode, api.MaxCode, great, api.MaxCode})
}

// MaxFuncs functions in a chain, told from its beginning on: each is inlined ahead of growing.
func TestLongChain(t *testing.T) {
	h := direct(api.MaxFuncs)
	for f := range api.MaxFuncs - 1 {
		h.Sites = append(h.Sites, call(f, f+1))
	}
	sizes := slices.Repeat([]int{2}, api.MaxFuncs)
	after := append(slices.Repeat([]int{3}, api.MaxFuncs-1), 2)
	wantLarge(t, h, sizes, bound, bound, rising(api.MaxFuncs-1), after)
	// a way back makes all of it a group
	h.Sites = append(h.Sites, call(api.MaxFuncs-1, 0))
	wantLarge(t, h, sizes, bound, bound, nil, sizes)
}

// Told from its end on: each that is inlined makes the next one wait, so that every second one is looked at ahead of all others.
func TestLongChainBackwards(t *testing.T) {
	h := direct(api.MaxFuncs)
	var even, odd []int
	after := slices.Repeat([]int{2}, api.MaxFuncs)
	for i := range api.MaxFuncs - 1 {
		from := api.MaxFuncs - 2 - i
		h.Sites = append(h.Sites, call(from, from+1))
		if i%2 == 0 {
			even, after[from] = append(even, i), 3
		} else {
			odd, after[from] = append(odd, i), 4
		}
	}
	wantLarge(t, h, slices.Repeat([]int{2}, api.MaxFuncs), bound, bound, append(even, odd...), after)
}

// MaxTokens sites that are all alike.
func TestMostSites(t *testing.T) {
	h := direct(2)
	h.Sites = slices.Repeat([]api.Site{call(0, 1)}, api.MaxTokens)
	all := rising(api.MaxTokens)
	wantLarge(t, h, []int{1, 2}, bound, bound, all, []int{1 + api.MaxTokens, 2})
	wantLarge(t, h, []int{1, 2}, api.MaxTokens-1, bound, all[:api.MaxTokens-1], []int{api.MaxTokens, 2})
	wantLarge(t, h, []int{1, 2}, bound, api.MaxTokens, all[:api.MaxTokens-1], []int{api.MaxTokens, 2})
	wantLarge(t, h, []int{1, 1}, 0, 1, all, []int{1, 1})
}

// All limits at once: each site with an interface may call each class, and function 0 calls itself by the last of them.
func TestAllAtTheLimits(t *testing.T) {
	h := api.Hier{Funcs: api.MaxFuncs}
	for i := range api.MaxTypes {
		h.Classes = append(h.Classes, class([]int{api.MaxTypes - 1 - i}, "m"))
		h.Ifaces = append(h.Ifaces, []string{"m"})
	}
	for i := range api.MaxTokens - 2 {
		h.Sites = append(h.Sites, ask(0, i%api.MaxTypes, "m"))
	}
	h.Sites = append(h.Sites, call(api.MaxFuncs-1, 0), call(0, api.MaxTypes))
	after := slices.Repeat([]int{api.MaxCode}, api.MaxFuncs)
	after[0] += api.MaxCode - 1
	wantLarge(t, h, slices.Repeat([]int{api.MaxCode}, api.MaxFuncs), bound, bound, []int{api.MaxTokens - 1}, after)
}
