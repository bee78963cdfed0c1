package inline_test

import (
	"slices"
	"testing"

	"halyard/api"
	"halyard/inline"
)

// much is a budget and a size that nothing comes to in small plans.
const much = 1000000

func call(from, to int) api.Site { return api.Site{From: from, To: to, Iface: -1} }

func ask(from, iface int, method string) api.Site {
	return api.Site{From: from, Iface: iface, Method: method}
}

// class: the methods have these functions.
func class(funcs []int, methods ...string) api.Class {
	return api.Class{Methods: methods, Funcs: funcs}
}

// direct: a Hier of direct calls alone.
func direct(funcs int, pairs ...[2]int) api.Hier {
	h := api.Hier{Funcs: funcs}
	for _, p := range pairs {
		h.Sites = append(h.Sites, call(p[0], p[1]))
	}
	return h
}

func wantPlan(t *testing.T, h api.Hier, sizes []int, budget, most int, sites, after []int) {
	t.Helper()
	gotSites, gotAfter, e := inline.Plan(h, sizes, budget, most)
	if e != api.OK || !slices.Equal(gotSites, sites) || !slices.Equal(gotAfter, after) {
		t.Errorf("Plan(%+v, %v, %d, %d): %v, %v, %d, want %v, %v", h, sizes, budget, most, gotSites, gotAfter, e, sites, after)
	}
}

func wantError(t *testing.T, h api.Hier, sizes []int, budget, most int, want api.Errno) {
	t.Helper()
	if sites, after, e := inline.Plan(h, sizes, budget, most); e != want || len(sites) > 0 || len(after) > 0 {
		t.Errorf("Plan(%+v, %v, %d, %d): %v, %v, %d, want %d", h, sizes, budget, most, sites, after, e, want)
	}
}

// example: the chapter's functions and sites.
func example() api.Hier { return direct(3, [2]int{0, 1}, [2]int{0, 2}, [2]int{2, 1}) }

// Example 1, and what a greater budget makes of it.
func TestExample(t *testing.T) {
	sizes := []int{10, 3, 5}
	wantPlan(t, example(), sizes, 6, 100, []int{0, 2}, []int{12, 3, 7})
	wantPlan(t, example(), sizes, 9, 100, []int{0, 2}, []int{12, 3, 7})
	wantPlan(t, example(), sizes, 10, 100, []int{0, 2, 1}, []int{18, 3, 7})
}

// Without sites, and with such as cannot be inlined, the sizes stay as they are.
func TestNothingToInline(t *testing.T) {
	wantPlan(t, direct(0), nil, 0, 0, nil, nil)
	wantPlan(t, direct(0), nil, much, much, nil, nil)
	wantPlan(t, direct(1), []int{7}, much, much, nil, []int{7})
	wantPlan(t, direct(3), []int{1, api.MaxCode, 2}, 0, 0, nil, []int{1, api.MaxCode, 2})
	wantPlan(t, direct(2, [2]int{0, 1}), []int{5, 5}, 0, much, nil, []int{5, 5})
	wantPlan(t, direct(2, [2]int{0, 1}), []int{5, 5}, much, 0, nil, []int{5, 5})
}

// Who grows: From, by To's size less 1, and nobody else.
func TestFromGrows(t *testing.T) {
	wantPlan(t, direct(2, [2]int{0, 1}), []int{10, 4}, much, much, []int{0}, []int{13, 4})
	wantPlan(t, direct(2, [2]int{1, 0}), []int{10, 4}, much, much, []int{0}, []int{10, 13})
	wantPlan(t, direct(2, [2]int{0, 1}), []int{1, 1}, much, much, []int{0}, []int{1, 1})
	wantPlan(t, direct(2, [2]int{0, 1}), []int{1, 2}, much, much, []int{0}, []int{2, 2})
	wantPlan(t, direct(4, [2]int{1, 3}), []int{9, 8, 7, 6}, much, much, []int{0}, []int{9, 13, 7, 6})
}

// One and the same call at several sites: each is inlined for itself.
func TestSameCallAgain(t *testing.T) {
	h := direct(2, [2]int{0, 1}, [2]int{0, 1}, [2]int{0, 1})
	wantPlan(t, h, []int{10, 4}, much, much, []int{0, 1, 2}, []int{19, 4})
	wantPlan(t, h, []int{10, 4}, 6, much, []int{0, 1}, []int{16, 4})
	wantPlan(t, h, []int{10, 4}, much, 16, []int{0, 1}, []int{16, 4})
}

// The least size goes first, wherever its site stands.
func TestLeastFirst(t *testing.T) {
	h := direct(5, [2]int{0, 1}, [2]int{0, 2}, [2]int{0, 3}, [2]int{0, 4})
	wantPlan(t, h, []int{1, 2, 3, 4, 5}, much, much, []int{0, 1, 2, 3}, []int{11, 2, 3, 4, 5})
	wantPlan(t, h, []int{1, 5, 4, 3, 2}, much, much, []int{3, 2, 1, 0}, []int{11, 5, 4, 3, 2})
	wantPlan(t, h, []int{1, 3, 5, 2, 4}, much, much, []int{2, 0, 3, 1}, []int{11, 3, 5, 2, 4})
	wantPlan(t, h, []int{1, 3, 5, 2, 4}, 6, much, []int{2, 0, 3}, []int{7, 3, 5, 2, 4})
	// not the least From, and not the one that makes the least of both
	h = direct(4, [2]int{0, 2}, [2]int{1, 3})
	wantPlan(t, h, []int{1, 90, 5, 4}, much, much, []int{1, 0}, []int{5, 93, 5, 4})
}

// Of several with one size the least number goes first: the site's, not From's or To's.
func TestLeastNumber(t *testing.T) {
	h := direct(6, [2]int{5, 4}, [2]int{3, 2}, [2]int{1, 4}, [2]int{0, 2}, [2]int{5, 2})
	sizes := []int{9, 9, 3, 9, 3, 9}
	wantPlan(t, h, sizes, much, much, []int{0, 1, 2, 3, 4}, []int{11, 11, 3, 11, 3, 13})
	for k := range 6 {
		all := []int{0, 1, 2, 3, 4}[:min(k, 5)]
		sites, _, e := inline.Plan(h, sizes, 2*k, much)
		if e != api.OK || !slices.Equal(sites, all) {
			t.Errorf("with budget %d: %v, %d", 2*k, sites, e)
		}
	}
	slices.Reverse(h.Sites)
	wantPlan(t, h, sizes, 4, much, []int{0, 1}, []int{11, 9, 3, 9, 3, 11})
	// many, all alike but for their callers
	h, sizes = direct(100), slices.Repeat([]int{2}, 100)
	var want []int
	for i := range 99 {
		h.Sites = append(h.Sites, call(98-i, 99))
		want = append(want, i)
	}
	wantPlan(t, h, sizes, much, much, want, append(slices.Repeat([]int{3}, 99), 2))
	wantPlan(t, h, sizes, 5, much, want[:5], slices.Concat(slices.Repeat([]int{2}, 94), []int{3, 3, 3, 3, 3, 2}))
}

// A function that grows while others wait for it: its size of now counts, for the order and for what is inlined.
func TestGrowsWhileOthersWait(t *testing.T) {
	// 1 is less than 3 at first, but has grown beyond it when its site would be looked at
	h := direct(5, [2]int{0, 1}, [2]int{0, 3}, [2]int{1, 2})
	wantPlan(t, h, []int{20, 4, 3, 5, 1}, much, much, []int{2, 1, 0}, []int{29, 6, 3, 5, 1})
	// it has grown just to 3's size: the least number goes first, be it the one that waited
	wantPlan(t, h, []int{20, 4, 3, 6, 1}, much, much, []int{2, 0, 1}, []int{30, 6, 3, 6, 1})
	h = direct(5, [2]int{0, 3}, [2]int{0, 1}, [2]int{1, 2})
	wantPlan(t, h, []int{20, 4, 3, 6, 1}, much, much, []int{2, 0, 1}, []int{30, 6, 3, 6, 1})
	// and one less
	wantPlan(t, h, []int{20, 4, 3, 7, 1}, much, much, []int{2, 1, 0}, []int{31, 6, 3, 7, 1})
}

// One that grows again and again stays behind all that are less by then.
func TestGrowsAgainAndAgain(t *testing.T) {
	h := direct(6, [2]int{0, 1}, [2]int{1, 2}, [2]int{1, 3}, [2]int{1, 4}, [2]int{0, 5})
	wantPlan(t, h, []int{50, 4, 3, 4, 7, 13}, much, much, []int{1, 2, 3, 4, 0}, []int{76, 15, 3, 4, 7, 13})
	// 2 is looked at ahead of what makes it greater, for it is less
	h = direct(4, [2]int{1, 2}, [2]int{0, 2}, [2]int{2, 3})
	wantPlan(t, h, []int{9, 9, 3, 4}, much, much, []int{0, 1, 2}, []int{11, 11, 6, 4})
	wantPlan(t, h, []int{9, 9, 4, 3}, much, much, []int{2, 0, 1}, []int{14, 14, 6, 3})
	// sites of one function, some looked at with its old size, the others with its new one
	h = direct(4, [2]int{1, 2}, [2]int{2, 3}, [2]int{0, 2})
	wantPlan(t, h, []int{9, 9, 4, 4}, much, much, []int{0, 1, 2}, []int{15, 12, 7, 4})
}

// A chain: from the callee's end on each one has all below it within it; from the other end only what it called at first.
func TestChain(t *testing.T) {
	h := direct(5, [2]int{0, 1}, [2]int{1, 2}, [2]int{2, 3}, [2]int{3, 4})
	wantPlan(t, h, []int{30, 20, 8, 4, 2}, much, much, []int{3, 2, 1, 0}, []int{60, 31, 12, 5, 2})
	wantPlan(t, h, []int{2, 3, 4, 5, 6}, much, much, []int{0, 1, 2, 3}, []int{4, 6, 8, 10, 6})
	// 3 has grown to 2's size, so the least number goes first, and 2 grows too late for 1
	wantPlan(t, h, []int{6, 5, 4, 3, 2}, much, much, []int{3, 1, 2, 0}, []int{13, 8, 7, 4, 2})
	wantPlan(t, h, []int{3, 3, 3, 3, 3}, much, much, []int{0, 1, 2, 3}, []int{5, 5, 5, 5, 3})
	slices.Reverse(h.Sites)
	wantPlan(t, h, []int{3, 3, 3, 3, 3}, much, much, []int{0, 2, 1, 3}, []int{7, 5, 7, 5, 3})
}

// A growth that comes to just the budget will do, and one more will not.
func TestBudget(t *testing.T) {
	h := direct(2, [2]int{0, 1})
	wantPlan(t, h, []int{10, 5}, 4, much, []int{0}, []int{14, 5})
	wantPlan(t, h, []int{10, 5}, 3, much, nil, []int{10, 5})
	wantPlan(t, h, []int{10, 1}, 0, much, []int{0}, []int{10, 1})
	wantPlan(t, h, []int{10, 2}, 0, much, nil, []int{10, 2})
	wantPlan(t, h, []int{10, 2}, 1, much, []int{0}, []int{11, 2})
	// the growth is that of all functions together
	h = direct(6, [2]int{0, 3}, [2]int{1, 4}, [2]int{2, 5})
	sizes := []int{10, 20, 30, 3, 4, 5}
	wantPlan(t, h, sizes, 9, much, []int{0, 1, 2}, []int{12, 23, 34, 3, 4, 5})
	wantPlan(t, h, sizes, 8, much, []int{0, 1}, []int{12, 23, 30, 3, 4, 5})
	wantPlan(t, h, sizes, 5, much, []int{0, 1}, []int{12, 23, 30, 3, 4, 5})
	wantPlan(t, h, sizes, 4, much, []int{0}, []int{12, 20, 30, 3, 4, 5})
	wantPlan(t, h, sizes, 2, much, []int{0}, []int{12, 20, 30, 3, 4, 5})
	wantPlan(t, h, sizes, 1, much, nil, sizes)
}

// A size that comes to just most will do, and one more will not.
func TestMost(t *testing.T) {
	h := direct(2, [2]int{0, 1})
	wantPlan(t, h, []int{10, 5}, much, 14, []int{0}, []int{14, 5})
	wantPlan(t, h, []int{10, 5}, much, 13, nil, []int{10, 5})
	wantPlan(t, h, []int{1, 5}, much, 5, []int{0}, []int{5, 5})
	wantPlan(t, h, []int{1, 5}, much, 4, nil, []int{1, 5})
	wantPlan(t, h, []int{1, 1}, much, 1, []int{0}, []int{1, 1})
	// nothing grows, but From is beyond most already
	wantPlan(t, h, []int{1, 1}, much, 0, nil, []int{1, 1})
	wantPlan(t, h, []int{10, 1}, 0, 10, []int{0}, []int{10, 1})
	wantPlan(t, h, []int{10, 1}, 0, 9, nil, []int{10, 1})
	// To may be beyond it by its own size, From is what counts
	wantPlan(t, h, []int{3, 8}, much, 10, []int{0}, []int{10, 8})
	wantPlan(t, h, []int{3, 8}, much, 9, nil, []int{3, 8})
}

// Where one is too large for most, others are looked at all the same, and the growth is as if it were not there.
func TestMostOfOneFrom(t *testing.T) {
	h := direct(4, [2]int{0, 2}, [2]int{1, 2}, [2]int{0, 3}, [2]int{1, 3})
	sizes := []int{50, 10, 4, 6}
	wantPlan(t, h, sizes, much, 52, []int{1, 3}, []int{50, 18, 4, 6})
	wantPlan(t, h, sizes, 8, 52, []int{1, 3}, []int{50, 18, 4, 6})
	wantPlan(t, h, sizes, 7, 52, []int{1}, []int{50, 13, 4, 6})
	wantPlan(t, h, sizes, much, 53, []int{0, 1, 3}, []int{53, 18, 4, 6})
	wantPlan(t, h, sizes, much, 17, []int{1}, []int{50, 13, 4, 6})
	// From's size of now is what counts
	h = direct(3, [2]int{0, 1}, [2]int{0, 2})
	wantPlan(t, h, []int{10, 4, 5}, much, 17, []int{0, 1}, []int{17, 4, 5})
	wantPlan(t, h, []int{10, 4, 5}, much, 16, []int{0}, []int{13, 4, 5})
	// To's too, and what is not inlined into it does not make it greater
	h = direct(3, [2]int{0, 1}, [2]int{1, 2})
	wantPlan(t, h, []int{10, 6, 5}, much, 19, []int{1, 0}, []int{19, 10, 5})
	wantPlan(t, h, []int{10, 6, 5}, much, 18, []int{1}, []int{10, 10, 5})
	wantPlan(t, h, []int{4, 6, 5}, much, 9, []int{0}, []int{9, 6, 5})
}
