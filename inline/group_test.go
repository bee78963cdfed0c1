package inline_test

import (
	"testing"

	"halyard/api"
)

// From that is To: such a site is never inlined, and To calls itself, so that no other site of it is.
func TestCallsItself(t *testing.T) {
	wantPlan(t, direct(1, [2]int{0, 0}), []int{1}, much, much, nil, []int{1})
	wantPlan(t, direct(1, [2]int{0, 0}, [2]int{0, 0}), []int{7}, much, much, nil, []int{7})
	h := direct(3, [2]int{0, 1}, [2]int{1, 1}, [2]int{2, 0})
	wantPlan(t, h, []int{5, 3, 4}, much, much, []int{2}, []int{5, 3, 8})
	// wherever the call of itself stands among the sites
	wantPlan(t, direct(2, [2]int{1, 1}, [2]int{0, 1}), []int{5, 3}, much, much, nil, []int{5, 3})
	wantPlan(t, direct(2, [2]int{0, 1}, [2]int{1, 1}), []int{5, 3}, much, much, nil, []int{5, 3})
	// a From that calls itself grows as any other
	wantPlan(t, direct(2, [2]int{0, 0}, [2]int{0, 1}), []int{5, 3}, much, much, []int{1}, []int{7, 3})
}

// Functions of a group of many are never inlined, neither within it nor from without.
func TestGroupOfMany(t *testing.T) {
	h := direct(2, [2]int{0, 1}, [2]int{1, 0})
	wantPlan(t, h, []int{2, 3}, much, much, nil, []int{2, 3})
	h = direct(6, [2]int{0, 1}, [2]int{1, 2}, [2]int{2, 3}, [2]int{3, 1}, [2]int{5, 3}, [2]int{5, 2}, [2]int{3, 4}, [2]int{1, 4}, [2]int{5, 0})
	// 1, 2 and 3 are a group; 4 is inlined into them, 0 into 5
	wantPlan(t, h, []int{9, 5, 5, 5, 3, 20}, much, much, []int{6, 7, 8}, []int{9, 7, 5, 7, 3, 28})
	// a way back through many is one too
	ring := direct(5, [2]int{0, 1}, [2]int{1, 2}, [2]int{2, 3}, [2]int{3, 4}, [2]int{4, 0})
	wantPlan(t, ring, []int{1, 2, 3, 4, 5}, much, much, nil, []int{1, 2, 3, 4, 5})
	ring.Sites = ring.Sites[:4]
	wantPlan(t, ring, []int{1, 2, 3, 4, 5}, much, much, []int{0, 1, 2, 3}, []int{2, 4, 6, 8, 5})
}

// What calls a group, and what two of its functions call, is no part of it.
func TestBesideGroups(t *testing.T) {
	h := direct(5, [2]int{0, 1}, [2]int{1, 2}, [2]int{2, 1}, [2]int{1, 3}, [2]int{2, 3}, [2]int{4, 0})
	wantPlan(t, h, []int{4, 1, 1, 6, 9}, much, much, []int{5, 3, 4}, []int{4, 6, 6, 6, 12})
	// two ways to one function are no way back
	h = direct(4, [2]int{0, 1}, [2]int{0, 2}, [2]int{1, 3}, [2]int{2, 3})
	wantPlan(t, h, []int{5, 4, 3, 2}, much, much, []int{2, 3, 1, 0}, []int{12, 5, 4, 2})
}

// asked: function 1 asks interface 0 for a; class 0 has function 2 for it, class 1 nothing.
func asked(sites ...api.Site) api.Hier {
	return api.Hier{
		Funcs:   4,
		Classes: []api.Class{class([]int{2, 3}, "a", "b"), class([]int{1}, "b")},
		Ifaces:  [][]string{{"a"}, {"b"}, {"a", "c"}, {"c"}},
		Sites:   append([]api.Site{ask(1, 0, "a")}, sites...),
	}
}

// Sites with an interface are not looked at, however many targets they have, and keep their numbers.
func TestSitesWithAnInterface(t *testing.T) {
	sizes := []int{10, 5, 1, 4}
	wantPlan(t, asked(), sizes, much, much, nil, sizes)
	wantPlan(t, asked(ask(0, 1, "b"), ask(0, 2, "a"), ask(0, 3, "c")), sizes, much, much, nil, sizes)
	wantPlan(t, asked(call(0, 1), ask(0, 1, "b"), call(0, 3)), sizes, much, much, []int{3, 1}, []int{17, 5, 1, 4})
	// a To of 0 beside an interface is no call of function 0
	wantPlan(t, asked(call(3, 0)), sizes, much, much, []int{1}, []int{10, 5, 1, 13})
}

// Calls through interfaces make groups, as direct ones do.
func TestGroupsThroughInterfaces(t *testing.T) {
	sizes := []int{10, 5, 3, 4}
	// 1 calls 2 by the interface, and 2 calls 1
	wantPlan(t, asked(call(0, 1), call(2, 1), call(0, 2)), sizes, much, much, nil, sizes)
	// 2 calls 0, which calls 1
	wantPlan(t, asked(call(2, 0), call(0, 1), call(3, 1), call(3, 2)), sizes, much, much, nil, sizes)
	// 2 asks for what no class has: that is no call
	wantPlan(t, asked(call(0, 1), ask(2, 2, "a"), call(0, 2)), sizes, much, much, []int{3, 1}, []int{16, 5, 3, 4})
	// 2 asks for b, which is 3 or 1
	wantPlan(t, asked(call(0, 1), ask(2, 1, "b"), call(0, 2), call(0, 3)), sizes, much, much, []int{4}, []int{13, 5, 3, 4})
	// a class that does not satisfy the interface makes no call
	h := asked(call(0, 1), ask(2, 1, "b"), call(0, 2), call(0, 3))
	h.Ifaces[1] = []string{"b", "a"}
	wantPlan(t, h, sizes, much, much, []int{3, 4, 1}, []int{19, 5, 3, 4})
}

// A function that may call itself through an interface calls itself.
func TestCallsItselfThroughAnInterface(t *testing.T) {
	sizes := []int{10, 5, 3, 4}
	wantPlan(t, asked(call(0, 2), ask(2, 0, "a")), sizes, much, much, nil, sizes)
	// among several targets, at any place
	wantPlan(t, asked(call(0, 3), ask(3, 1, "b"), call(0, 2)), sizes, much, much, []int{3}, []int{12, 5, 3, 4})
	wantPlan(t, asked(call(0, 1), ask(1, 1, "b"), call(0, 2)), sizes, much, much, []int{3}, []int{12, 5, 3, 4})
	// another function that asks for it does not matter
	wantPlan(t, asked(call(0, 3), ask(0, 1, "b")), sizes, much, much, []int{1}, []int{13, 5, 3, 4})
	// nor does one that asks for what no class has
	wantPlan(t, asked(call(0, 2), ask(2, 2, "a"), ask(2, 3, "c")), sizes, much, much, []int{1}, []int{12, 5, 3, 4})
}
