package calls_test

import (
	"slices"
	"testing"

	"halyard/api"
	"halyard/calls"
)

// sound is a second Sound: the chapter's words one by one, each list against all of itself.
func sound(h api.Hier) api.Errno {
	if h.Funcs > 4096 || len(h.Classes) > 1024 || len(h.Ifaces) > 1024 || len(h.Sites) > 20000 {
		return api.ErrLarge
	}
	bad := h.Funcs < 0
	for _, c := range h.Classes {
		bad = bad || twice(c.Methods) || len(c.Funcs) != len(c.Methods)
		for _, f := range c.Funcs {
			bad = bad || f < 0 || f >= h.Funcs
		}
	}
	bad = bad || slices.ContainsFunc(h.Ifaces, twice)
	for _, s := range h.Sites {
		bad = bad || s.From < 0 || s.From >= h.Funcs
		if s.Iface < 0 {
			bad = bad || s.To < 0 || s.To >= h.Funcs || s.Iface != -1 || s.Method != ""
		} else {
			bad = bad || s.Iface >= len(h.Ifaces) || s.To != 0 || !slices.Contains(h.Ifaces[s.Iface], s.Method)
		}
	}
	if bad {
		return api.ErrForm
	}
	return api.OK
}

func twice(names []string) bool {
	for i, name := range names {
		if slices.Contains(names[:i], name) {
			return true
		}
	}
	return false
}

// calledBy: of a sound one, what a site calls: class by class.
func calledBy(h api.Hier, s api.Site) []int {
	if s.Iface == -1 {
		return []int{s.To}
	}
	var list []int
	for _, c := range h.Classes {
		lacks := func(name string) bool { return !slices.Contains(c.Methods, name) }
		if slices.ContainsFunc(h.Ifaces[s.Iface], lacks) {
			continue
		}
		if f := c.Funcs[slices.Index(c.Methods, s.Method)]; !slices.Contains(list, f) {
			list = append(list, f)
		}
	}
	return list
}

// ways: from each function to each other one, by one call or by more; a table that is filled till nothing is added.
func ways(h api.Hier) [][]bool {
	come := make([][]bool, h.Funcs)
	for f := range come {
		come[f] = make([]bool, h.Funcs)
	}
	for _, s := range h.Sites {
		for _, to := range calledBy(h, s) {
			come[s.From][to] = true
		}
	}
	for by := range come {
		for from := range come {
			for to := range come {
				if come[from][by] && come[by][to] {
					come[from][to] = true
				}
			}
		}
	}
	return come
}

// groupsBy: the chapter's words as they stand. The group of a function that does not stand there yet may come, if all that its functions come to stands there or is of it.
func groupsBy(come [][]bool) [][]int {
	var out [][]int
	there := make([]bool, len(come))
	for slices.Contains(there, false) {
		for f := range come {
			if there[f] || !mayCome(come, there, f) {
				continue
			}
			group := groupOf(come, f)
			for _, one := range group {
				there[one] = true
			}
			out = append(out, group)
			break
		}
	}
	return out
}

func groupOf(come [][]bool, f int) []int {
	var group []int
	for one := range come {
		if one == f || come[f][one] && come[one][f] {
			group = append(group, one)
		}
	}
	return group
}

func mayCome(come [][]bool, there []bool, f int) bool {
	for to := range come {
		if come[f][to] && !there[to] && to != f && !come[to][f] {
			return false
		}
	}
	return true
}

// hold holds all calls against the second ones, and against one another. It tells the error and the groups.
func hold(t *testing.T, h api.Hier) (api.Errno, [][]int) {
	t.Helper()
	if e := sound(h); e != api.OK {
		wantError(t, h, e)
		return e, nil
	}
	wantSound(t, h)
	var targets [][]int
	d := h
	d.Sites = slices.Clone(h.Sites)
	for i, s := range h.Sites {
		list := calledBy(h, s)
		targets = append(targets, list)
		if len(list) == 1 && s.Iface != -1 {
			d.Sites[i] = call(s.From, list[0])
		}
	}
	wantTargets(t, h, targets...)
	wantDevirt(t, h, d)
	come := ways(h)
	groups := groupsBy(come)
	wantGroups(t, h, groups...)
	for from := range come {
		come[from][from] = true
		if got, e := calls.Reach(h, from); e != api.OK || !slices.Equal(got, come[from]) {
			t.Errorf("Reach(%+v, %d): %v, %d, want %v", h, from, got, e, come[from])
		}
	}
	// what is made direct calls what it called
	wantTargets(t, d, targets...)
	wantDevirt(t, d, d)
	wantGroups(t, d, groups...)
	return api.OK, groups
}

// All ways in which up to three functions call one another and themselves, and four one another.
func TestAllSmallGraphs(t *testing.T) {
	for funcs := range 4 {
		for bits := range 1 << (funcs * funcs) {
			h := direct(funcs)
			for i := range funcs * funcs {
				if bits>>i&1 != 0 {
					h.Sites = append(h.Sites, call(i/funcs, i%funcs))
				}
			}
			hold(t, h)
		}
	}
	for bits := range 1 << 12 {
		h := direct(4)
		for i := range 12 {
			if bits>>i&1 != 0 {
				h.Sites = append(h.Sites, call(i/3, (i/3+1+i%3)%4))
			}
		}
		hold(t, h)
	}
}

// All ways in which two classes have two methods with two functions, with all interfaces of these methods and all their sites.
func TestAllSmallClasses(t *testing.T) {
	var classes []api.Class
	for _, names := range [][]string{nil, {"a"}, {"b"}, {"a", "b"}, {"b", "a"}} {
		for bits := range 1 << len(names) {
			c := class(nil, names...)
			for i := range names {
				c.Funcs = append(c.Funcs, 1+bits>>i&1)
			}
			classes = append(classes, c)
		}
	}
	for _, one := range classes {
		for _, other := range classes {
			h := api.Hier{Funcs: 3, Classes: []api.Class{one, other}, Ifaces: [][]string{{"a", "b"}, {"a"}, {}, {"b"}, {"b", "a"}}}
			for i, names := range h.Ifaces {
				for _, name := range names {
					h.Sites = append(h.Sites, ask(0, i, name), ask(1, i, name))
					g := h
					g.Sites = h.Sites[len(h.Sites)-2:]
					hold(t, g)
				}
			}
			hold(t, h)
		}
	}
}
