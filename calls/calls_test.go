package calls_test

import (
	"slices"
	"testing"

	"halyard/api"
	"halyard/calls"
)

func call(from, to int) api.Site { return api.Site{From: from, To: to, Iface: -1} }

func ask(from, iface int, method string) api.Site {
	return api.Site{From: from, Iface: iface, Method: method}
}

// class: the methods have these functions.
func class(funcs []int, methods ...string) api.Class {
	return api.Class{Methods: methods, Funcs: funcs}
}

// direct: a Hier of direct calls alone.
func direct(funcs int, pairs ...[2]int) api.Hier {
	h := api.Hier{Funcs: funcs}
	for _, p := range pairs {
		h.Sites = append(h.Sites, call(p[0], p[1]))
	}
	return h
}

// world: classes that have much, little and nothing; interfaces that all, some and none of them satisfy; and sites of each kind.
func world() api.Hier {
	return api.Hier{
		Funcs: 9,
		Classes: []api.Class{
			class([]int{5, 6}, "b", "a"),
			class([]int{4}, "a"),
			{},
			class([]int{8, 6, 3}, "c", "a", "b"),
			class([]int{7, 7}, "c", "d"),
		},
		Ifaces: [][]string{{"a"}, {"a", "b"}, {}, {"c"}, {"d", "a"}, {"x"}, {"b", "c", "a"}, {"b", "a"}},
		Sites: []api.Site{
			call(0, 1), call(1, 1), call(8, 0),
			ask(0, 0, "a"), ask(1, 1, "a"), ask(2, 1, "b"), ask(3, 3, "c"), ask(4, 4, "a"), ask(5, 5, "x"),
			ask(6, 6, "a"), ask(6, 6, "b"), ask(6, 6, "c"), ask(7, 7, "a"), ask(7, 7, "b"), ask(5, 4, "d"),
		},
	}
}

func same(a, b [][]int) bool { return slices.EqualFunc(a, b, slices.Equal[[]int]) }

// sameHier: nil and empty lists are the same.
func sameHier(a, b api.Hier) bool {
	sameClass := func(c, d api.Class) bool {
		return slices.Equal(c.Methods, d.Methods) && slices.Equal(c.Funcs, d.Funcs)
	}
	return a.Funcs == b.Funcs && slices.EqualFunc(a.Classes, b.Classes, sameClass) && slices.EqualFunc(a.Ifaces, b.Ifaces, slices.Equal[[]string]) && slices.Equal(a.Sites, b.Sites)
}

func wantSound(t *testing.T, h api.Hier) {
	t.Helper()
	if e := calls.Sound(h); e != api.OK {
		t.Errorf("Sound(%+v): %d", h, e)
	}
}

// wantError: all calls answer the error, and nothing beside it.
func wantError(t *testing.T, h api.Hier, want api.Errno) {
	t.Helper()
	if e := calls.Sound(h); e != want {
		t.Errorf("Sound: %d, want %d", e, want)
	}
	if list, e := calls.Targets(h); e != want || len(list) > 0 {
		t.Errorf("Targets: %v, %d, want %d", list, e, want)
	}
	if d, e := calls.Devirt(h); e != want || !sameHier(d, api.Hier{}) {
		t.Errorf("Devirt: %v, %d, want %d", d, e, want)
	}
	if list, e := calls.Groups(h); e != want || len(list) > 0 {
		t.Errorf("Groups: %v, %d, want %d", list, e, want)
	}
	for _, from := range []int{-1, 0, h.Funcs - 1, h.Funcs} {
		if list, e := calls.Reach(h, from); e != want || len(list) > 0 {
			t.Errorf("Reach from %d: %v, %d, want %d", from, list, e, want)
		}
	}
}

func wantTargets(t *testing.T, h api.Hier, want ...[]int) {
	t.Helper()
	if got, e := calls.Targets(h); e != api.OK || !same(got, want) {
		t.Errorf("Targets(%+v): %v, %d, want %v", h, got, e, want)
	}
}

func wantDevirt(t *testing.T, h, want api.Hier) {
	t.Helper()
	if got, e := calls.Devirt(h); e != api.OK || !sameHier(got, want) {
		t.Errorf("Devirt(%+v): %+v, %d, want %+v", h, got, e, want)
	}
}

func wantGroups(t *testing.T, h api.Hier, want ...[]int) {
	t.Helper()
	if got, e := calls.Groups(h); e != api.OK || !same(got, want) {
		t.Errorf("Groups(%+v): %v, %d, want %v", h, got, e, want)
	}
}

// wantReach: just these functions are come to.
func wantReach(t *testing.T, h api.Hier, from int, come ...int) {
	t.Helper()
	want := make([]bool, h.Funcs)
	for _, f := range come {
		want[f] = true
	}
	if got, e := calls.Reach(h, from); e != api.OK || !slices.Equal(got, want) {
		t.Errorf("Reach(%+v, %d): %v, %d, want %v", h, from, got, e, want)
	}
}

// Example 1.
func TestExample(t *testing.T) {
	wantGroups(t, direct(3, [2]int{0, 1}, [2]int{0, 2}, [2]int{1, 2}, [2]int{2, 1}), []int{1, 2}, []int{0})
	h := api.Hier{Funcs: 2, Classes: []api.Class{class([]int{1}, "m"), class([]int{1}, "m")}, Ifaces: [][]string{{"m"}}, Sites: []api.Site{ask(0, 0, "m")}}
	want := h
	want.Sites = []api.Site{call(0, 1)}
	wantDevirt(t, h, want)
}

func TestWorld(t *testing.T) {
	h := world()
	wantSound(t, h)
	wantTargets(t, h,
		[]int{1}, []int{1}, []int{0},
		[]int{6, 4}, []int{6}, []int{5, 3}, []int{8, 7}, nil, nil,
		[]int{6}, []int{3}, []int{8}, []int{6}, []int{5, 3}, nil)
	want := world()
	for at, to := range map[int]int{4: 6, 9: 6, 10: 3, 11: 8, 12: 6} {
		want.Sites[at] = call(h.Sites[at].From, to)
	}
	wantDevirt(t, h, want)
	wantGroups(t, h, []int{4}, []int{5}, []int{0, 1, 3, 6, 7, 8}, []int{2})
	for f := range 9 {
		switch f {
		case 2:
			wantReach(t, h, f, 0, 1, 2, 3, 4, 5, 6, 7, 8)
		case 4, 5:
			wantReach(t, h, f, f)
		default:
			wantReach(t, h, f, 0, 1, 3, 4, 5, 6, 7, 8)
		}
	}
}

// P13.2: the functions stand in the order of the classes, each once, at its first class.
func TestTargetsOrder(t *testing.T) {
	h := api.Hier{Funcs: 10, Ifaces: [][]string{{"a", "b"}}, Sites: []api.Site{ask(0, 0, "a"), ask(9, 0, "b")}}
	for _, c := range [][2]int{{9, 1}, {2, 1}, {9, 8}, {0, 0}, {2, 8}, {5, 1}, {0, 3}} {
		h.Classes = append(h.Classes, class([]int{c[0], c[1]}, "a", "b"))
	}
	wantTargets(t, h, []int{9, 2, 0, 5}, []int{1, 8, 0, 3})
	slices.Reverse(h.Classes)
	wantTargets(t, h, []int{0, 5, 2, 9}, []int{3, 1, 8, 0})
}

// A class must have all methods, whatever their order and whatever else it has.
func TestSatisfies(t *testing.T) {
	h := api.Hier{Funcs: 8, Ifaces: [][]string{{"a", "b", "c"}}, Sites: []api.Site{ask(0, 0, "b")}}
	h.Classes = []api.Class{
		class([]int{0, 0}, "a", "b"), class([]int{1, 1}, "b", "c"), class([]int{2}, "b"),
		class([]int{7, 7, 3}, "c", "a", "b"), class([]int{7, 4, 7, 7, 7}, "d", "b", "a", "e", "c"),
		class([]int{5, 5, 5, 5}, "a", "b", "d", "e"), class([]int{6, 6, 6}, "A", "b", "c"), class([]int{6, 6, 6}, "a", "b", "c "),
	}
	wantTargets(t, h, []int{3, 4})
	h.Ifaces[0] = []string{"b"}
	wantTargets(t, h, []int{0, 1, 2, 3, 4, 5, 6})
	h.Ifaces[0] = []string{"b", "A"}
	wantTargets(t, h, []int{6})
	h.Ifaces[0] = []string{"b", "a", "A"}
	wantTargets(t, h, nil)
	h.Classes = nil
	wantTargets(t, h, nil)
}

// An interface without methods is satisfied by all, and has nothing to call; a class without methods satisfies that one alone.
func TestWithoutMethods(t *testing.T) {
	h := api.Hier{Funcs: 3, Classes: []api.Class{{}, class([]int{1}, "a"), {}}, Ifaces: [][]string{{}, {"a"}, nil}, Sites: []api.Site{ask(0, 1, "a")}}
	wantTargets(t, h, []int{1})
	h.Sites = []api.Site{ask(0, 0, "a")}
	wantError(t, h, api.ErrForm)
	h.Sites = []api.Site{ask(0, 2, "")}
	wantError(t, h, api.ErrForm)
	h.Sites = nil
	wantTargets(t, h)
	wantDevirt(t, h, h)
	wantGroups(t, h, []int{0}, []int{1}, []int{2})
}

// An interface that nobody satisfies has sites that call nothing, and they stay.
func TestNobodySatisfies(t *testing.T) {
	h := api.Hier{Funcs: 2, Classes: []api.Class{class([]int{1}, "a"), class([]int{1}, "b")}, Ifaces: [][]string{{"a", "b"}}, Sites: []api.Site{ask(0, 0, "a"), ask(0, 0, "b")}}
	wantTargets(t, h, nil, nil)
	wantDevirt(t, h, h)
	wantGroups(t, h, []int{0}, []int{1})
	wantReach(t, h, 0, 0)
}

// Two interfaces of the same methods, and one that asks for more, are told apart by their numbers.
func TestInterfacesAreTheirOwn(t *testing.T) {
	h := api.Hier{Funcs: 4, Classes: []api.Class{class([]int{1}, "a"), class([]int{2, 3}, "a", "b")}, Ifaces: [][]string{{"a"}, {"a", "b"}, {"b"}, {"a"}}}
	h.Sites = []api.Site{ask(0, 1, "a"), ask(0, 0, "a"), ask(0, 3, "a"), ask(0, 2, "b"), ask(0, 1, "b"), ask(0, 1, "a"), ask(0, 0, "a")}
	wantTargets(t, h, []int{2}, []int{1, 2}, []int{1, 2}, []int{3}, []int{3}, []int{2}, []int{1, 2})
}

// P13.3: a site is made direct if it has just one target; all else stays, and what is made so stays so.
func TestDevirt(t *testing.T) {
	h := api.Hier{
		Funcs:   6,
		Classes: []api.Class{class([]int{0, 3}, "a", "b"), class([]int{0, 4}, "a", "b"), class([]int{5}, "c")},
		Ifaces:  [][]string{{"a", "b"}, {"c"}, {"c", "a"}},
		Sites:   []api.Site{ask(5, 0, "a"), ask(4, 0, "b"), ask(3, 1, "c"), ask(2, 2, "c"), call(1, 2), ask(0, 0, "a"), call(5, 5)},
	}
	want := h
	want.Sites = []api.Site{call(5, 0), ask(4, 0, "b"), call(3, 5), ask(2, 2, "c"), call(1, 2), call(0, 0), call(5, 5)}
	wantDevirt(t, h, want)
	wantDevirt(t, want, want)
	wantSound(t, want)
}

// P13.4: functions that call themselves, and those that are called more than once.
func TestGroupsOfOne(t *testing.T) {
	wantGroups(t, direct(0))
	wantGroups(t, direct(1), []int{0})
	wantGroups(t, direct(1, [2]int{0, 0}), []int{0})
	wantGroups(t, direct(1, [2]int{0, 0}, [2]int{0, 0}), []int{0})
	wantGroups(t, direct(4), []int{0}, []int{1}, []int{2}, []int{3})
	wantGroups(t, direct(3, [2]int{0, 0}, [2]int{2, 2}), []int{0}, []int{1}, []int{2})
	wantGroups(t, direct(3, [2]int{0, 0}, [2]int{0, 2}, [2]int{0, 2}, [2]int{2, 2}, [2]int{2, 1}), []int{1}, []int{2}, []int{0})
}

func TestGroupsOfMany(t *testing.T) {
	wantGroups(t, direct(2, [2]int{0, 1}, [2]int{1, 0}), []int{0, 1})
	wantGroups(t, direct(5, [2]int{4, 2}, [2]int{2, 0}, [2]int{0, 3}, [2]int{3, 1}, [2]int{1, 4}), []int{0, 1, 2, 3, 4})
	wantGroups(t, direct(6, [2]int{5, 0}, [2]int{0, 5}, [2]int{1, 4}, [2]int{4, 1}, [2]int{2, 3}, [2]int{3, 2}), []int{0, 5}, []int{1, 4}, []int{2, 3})
	// two rings with one function in common are one group
	wantGroups(t, direct(5, [2]int{0, 1}, [2]int{1, 0}, [2]int{1, 2}, [2]int{2, 1}, [2]int{2, 3}, [2]int{4, 0}), []int{3}, []int{0, 1, 2}, []int{4})
	// a way back by a function that was gone through already
	wantGroups(t, direct(4, [2]int{0, 1}, [2]int{1, 2}, [2]int{2, 0}, [2]int{0, 3}, [2]int{3, 2}), []int{0, 1, 2, 3})
	// a call into a group that is closed already is no way back
	wantGroups(t, direct(4, [2]int{0, 1}, [2]int{0, 2}, [2]int{2, 1}, [2]int{3, 0}, [2]int{0, 3}), []int{1}, []int{2}, []int{0, 3})
}

// Which of two stands first: the one with the least function, whenever it may stand there.
func TestGroupsOrder(t *testing.T) {
	wantGroups(t, direct(4, [2]int{0, 3}), []int{1}, []int{2}, []int{3}, []int{0})
	wantGroups(t, direct(4, [2]int{0, 1}), []int{1}, []int{0}, []int{2}, []int{3})
	wantGroups(t, direct(5, [2]int{0, 2}, [2]int{1, 2}), []int{2}, []int{0}, []int{1}, []int{3}, []int{4})
	wantGroups(t, direct(5, [2]int{0, 4}, [2]int{1, 3}), []int{2}, []int{3}, []int{1}, []int{4}, []int{0})
	wantGroups(t, direct(5, [2]int{0, 3}, [2]int{1, 4}), []int{2}, []int{3}, []int{0}, []int{4}, []int{1})
	// a group goes by its least function, not by the one that is called, nor by how many it has
	wantGroups(t, direct(6, [2]int{1, 5}, [2]int{5, 1}, [2]int{2, 3}, [2]int{3, 2}, [2]int{0, 5}, [2]int{4, 3}), []int{1, 5}, []int{0}, []int{2, 3}, []int{4})
	wantGroups(t, direct(6, [2]int{5, 4}, [2]int{4, 5}, [2]int{0, 5}, [2]int{3, 2}), []int{1}, []int{2}, []int{3}, []int{4, 5}, []int{0})
	// one that waits for two stands behind the second of them, at once
	wantGroups(t, direct(6, [2]int{0, 1}, [2]int{0, 4}), []int{1}, []int{2}, []int{3}, []int{4}, []int{0}, []int{5})
	wantGroups(t, direct(6, [2]int{0, 1}, [2]int{0, 1}, [2]int{0, 4}, [2]int{0, 4}, [2]int{0, 0}), []int{1}, []int{2}, []int{3}, []int{4}, []int{0}, []int{5})
	// two become free by one
	wantGroups(t, direct(4, [2]int{2, 3}, [2]int{1, 3}, [2]int{0, 1}), []int{3}, []int{1}, []int{0}, []int{2})
}

// Calls through interfaces are calls too, of all targets.
func TestGroupsThroughInterfaces(t *testing.T) {
	h := api.Hier{
		Funcs:   5,
		Classes: []api.Class{class([]int{1, 3}, "a", "b"), class([]int{2}, "a")},
		Ifaces:  [][]string{{"a"}, {"a", "b"}},
		Sites:   []api.Site{ask(0, 0, "a"), call(2, 4), ask(4, 0, "a"), ask(3, 1, "a"), ask(3, 1, "b")},
	}
	wantGroups(t, h, []int{1}, []int{2, 4}, []int{0}, []int{3})
	wantReach(t, h, 0, 0, 1, 2, 4)
	wantReach(t, h, 1, 1)
	wantReach(t, h, 2, 1, 2, 4)
	wantReach(t, h, 3, 1, 3)
	wantReach(t, h, 4, 1, 2, 4)
}

// P13.5: a function comes to itself, called or not; to what it calls, at any distance; and to nothing by which it is called.
func TestReach(t *testing.T) {
	h := direct(7, [2]int{0, 2}, [2]int{2, 4}, [2]int{4, 2}, [2]int{4, 6}, [2]int{1, 0}, [2]int{3, 3}, [2]int{5, 1})
	wantReach(t, h, 0, 0, 2, 4, 6)
	wantReach(t, h, 1, 0, 1, 2, 4, 6)
	wantReach(t, h, 2, 2, 4, 6)
	wantReach(t, h, 3, 3)
	wantReach(t, h, 4, 2, 4, 6)
	wantReach(t, h, 5, 0, 1, 2, 4, 5, 6)
	wantReach(t, h, 6, 6)
	wantReach(t, direct(1), 0, 0)
}
