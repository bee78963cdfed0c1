package calls_test

import (
	"reflect"
	"slices"
	"sync"
	"testing"
	"unsafe"

	"halyard/api"
	"halyard/calls"
	"halyard/sample"
)

// R1: nothing at all, as nil and as empty lists.
func TestNothing(t *testing.T) {
	for _, h := range []api.Hier{
		{},
		{Classes: []api.Class{}, Ifaces: [][]string{}, Sites: []api.Site{}},
		{Classes: []api.Class{{}, {Methods: []string{}, Funcs: []int{}}, {Funcs: []int{}}}, Ifaces: [][]string{nil, {}}},
	} {
		wantSound(t, h)
		wantTargets(t, h)
		wantDevirt(t, h, h)
		wantGroups(t, h)
		if list, e := calls.Reach(h, 0); e != api.ErrNone || len(list) > 0 {
			t.Errorf("Reach: %v, %d", list, e)
		}
	}
	wantError(t, api.Hier{Sites: []api.Site{{}}}, api.ErrForm)
	wantError(t, api.Hier{Funcs: 1, Sites: []api.Site{{}}}, api.ErrForm)
	wantError(t, api.Hier{Funcs: 1, Ifaces: [][]string{nil}, Sites: []api.Site{{}}}, api.ErrForm)
	wantTargets(t, api.Hier{Funcs: 1, Ifaces: [][]string{{""}}, Sites: []api.Site{{}}}, nil)
}

func doAll(h api.Hier) {
	calls.Sound(h)
	calls.Targets(h)
	calls.Devirt(h)
	calls.Groups(h)
	calls.Reach(h, 0)
	calls.Reach(h, -1)
}

// R4: no call changes what it is given, spare room included, be it sound or not; nor does spare room matter.
func TestNothingIsChanged(t *testing.T) {
	list := []api.Hier{world(), direct(3, [2]int{2, 1}, [2]int{1, 0}, [2]int{0, 2}), {}}
	for _, do := range faulty() {
		h := world()
		do(&h)
		list = append(list, h)
	}
	for _, h := range list {
		g := sample.HierInRoom(h)
		old := sample.HierOpened(g)
		doAll(g)
		if !reflect.DeepEqual(sample.HierOpened(g), old) {
			t.Errorf("%+v was changed", h)
		}
		if a, b := calls.Sound(h), calls.Sound(g); a != b {
			t.Errorf("Sound: %d, with spare room %d", a, b)
		}
	}
	want, _ := calls.Targets(world())
	wantTargets(t, sample.HierInRoom(world()), want...)
	all, _ := calls.Groups(world())
	wantGroups(t, sample.HierInRoom(world()), all...)
	d, _ := calls.Devirt(world())
	wantDevirt(t, sample.HierInRoom(world()), d)
}

// wantApart: no two lists share room. What stands in them is gone then.
func wantApart(t *testing.T, lists [][]int) {
	t.Helper()
	if !sample.Apart(lists) {
		t.Errorf("lists share room: %v", lists)
	}
}

// R4: lists that are answered share nothing with what was handed in, with one another, or with another answer.
func TestListsAreNew(t *testing.T) {
	h := sample.HierInRoom(world())
	old := sample.HierOpened(h)
	for name, do := range map[string]func(api.Hier) ([][]int, api.Errno){"Targets": calls.Targets, "Groups": calls.Groups} {
		want, _ := do(world())
		first, _ := do(h)
		again, _ := do(h)
		wantApart(t, first)
		clear(sample.Spare(first))
		if !same(again, want) {
			t.Errorf("%s: the second answer hangs on the first: %v, want %v", name, again, want)
		}
		if !reflect.DeepEqual(sample.HierOpened(h), old) {
			t.Errorf("%s: what was handed in hangs on the answer", name)
		}
	}
	want, _ := calls.Reach(world(), 0)
	first, _ := calls.Reach(h, 0)
	again, _ := calls.Reach(h, 0)
	clear(sample.Spare(first))
	if !slices.Equal(again, want) {
		t.Errorf("Reach: the second answer hangs on the first: %v, want %v", again, want)
	}
}

// spoil changes all that stands in the lists, spare room included.
func spoil(h api.Hier) {
	for _, c := range sample.Spare(h.Classes) {
		clear(sample.Spare(c.Methods))
		clear(sample.Spare(c.Funcs))
	}
	for _, list := range sample.Spare(h.Ifaces) {
		clear(sample.Spare(list))
	}
	clear(sample.Spare(h.Classes))
	clear(sample.Spare(h.Ifaces))
	clear(sample.Spare(h.Sites))
}

// R4: what Devirt answers is new, in each list, with and without sites that are made direct.
func TestDevirtIsNew(t *testing.T) {
	for _, one := range []api.Hier{world(), direct(3, [2]int{2, 1}), {Funcs: 2, Classes: world().Classes[2:3], Ifaces: world().Ifaces}} {
		h := sample.HierInRoom(one)
		old := sample.HierOpened(h)
		want, _ := calls.Devirt(one)
		want = sample.HierInRoom(want) // a copy, which hangs on no answer
		first, _ := calls.Devirt(h)
		again, _ := calls.Devirt(h)
		spoil(first)
		if !sameHier(again, want) {
			t.Errorf("the second answer hangs on the first: %+v, want %+v", again, want)
		}
		if !reflect.DeepEqual(sample.HierOpened(h), old) {
			t.Error("what was handed in hangs on the answer")
		}
		spoil(h)
		if !sameHier(again, want) {
			t.Errorf("the answer hangs on what was handed in: %+v, want %+v", again, want)
		}
		var lists [][]int
		for _, c := range again.Classes {
			lists = append(lists, c.Funcs)
		}
		wantApart(t, lists)
	}
}

// R4: nor do names share memory with what was handed in.
func TestNamesAreNew(t *testing.T) {
	long := string(slices.Repeat([]byte("n"), 100))
	h := api.Hier{Funcs: 2, Classes: []api.Class{class([]int{0}, long), class([]int{1}, long)}, Ifaces: [][]string{{long}}, Sites: []api.Site{ask(0, 0, long)}}
	d, e := calls.Devirt(h)
	if e != api.OK || !sameHier(d, h) {
		t.Fatalf("Devirt: %+v, %d", d, e)
	}
	for _, name := range []string{d.Classes[0].Methods[0], d.Classes[1].Methods[0], d.Ifaces[0][0], d.Sites[0].Method} {
		if unsafe.StringData(name) == unsafe.StringData(long) {
			t.Errorf("a name is not new")
		}
	}
}

// R4: one list in several places of what is handed in is several lists of what is answered.
func TestSharedLists(t *testing.T) {
	names, funcs := []string{"a", "b", "c"}, []int{1, 2, 0}
	c := class(funcs, names...)
	h := api.Hier{Funcs: 3, Classes: []api.Class{c, c, class(funcs[1:], names[1:]...)}, Ifaces: [][]string{names, names[1:], names[:1], names}, Sites: []api.Site{ask(0, 0, "a"), ask(1, 1, "c"), ask(1, 3, "b"), ask(2, 2, "a")}}
	wantTargets(t, h, []int{1}, []int{0}, []int{2}, []int{1})
	want := h
	want.Sites = []api.Site{call(0, 1), call(1, 0), call(1, 2), call(2, 1)}
	wantDevirt(t, h, want)
	d, _ := calls.Devirt(h)
	wantApart(t, [][]int{d.Classes[0].Funcs, d.Classes[1].Funcs, d.Classes[2].Funcs})
	clear(d.Ifaces[0])
	clear(d.Classes[0].Methods)
	d.Classes[1].Methods[0], d.Ifaces[3][0] = "x", "y"
	if !slices.Equal(d.Ifaces[1], names[1:]) || !slices.Equal(d.Ifaces[2], names[:1]) || !slices.Equal(d.Classes[2].Methods, names[1:]) || d.Classes[1].Methods[1] != "b" || d.Ifaces[3][1] != "b" || !slices.Equal(names, []string{"a", "b", "c"}) {
		t.Errorf("lists of the answer are one: %+v", d)
	}
}

// R5: a call that fails, or that is of another Hier, changes no later one; and calls at the same time do not meet.
func TestNothingIsKept(t *testing.T) {
	h, bad := world(), direct(2, [2]int{0, 2})
	targets, _ := calls.Targets(h)
	groups, _ := calls.Groups(h)
	d, _ := calls.Devirt(h)
	var all sync.WaitGroup
	for range 8 {
		all.Go(func() {
			for range 50 {
				wantError(t, bad, api.ErrForm)
				wantTargets(t, h, targets...)
				wantDevirt(t, h, d)
				wantGroups(t, direct(2, [2]int{0, 1}), []int{1}, []int{0})
				wantGroups(t, h, groups...)
				wantReach(t, h, 4, 4)
			}
		})
	}
	all.Wait()
}
