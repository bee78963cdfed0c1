package calls

import (
	"slices"
	"strings"

	"halyard/api"
)

// holder is a class that has some method, and the method's function there.
type holder struct{ class, f int }

// finder finds what the sites of a sound Hier call.
type finder struct {
	api.Hier
	holders map[string][]holder // by a method's name, in the order of the classes
	counts  map[int][]int       // by interface: how many of its methods each class has
	marks   []int               // of each function: the last list that it was put into
	lists   int
}

func finderOf(h api.Hier) *finder {
	w := &finder{Hier: h, holders: map[string][]holder{}, counts: map[int][]int{}, marks: make([]int, h.Funcs)}
	for i, c := range h.Classes {
		for k, name := range c.Methods {
			w.holders[name] = append(w.holders[name], holder{i, c.Funcs[k]})
		}
	}
	return w
}

// targets: what each site calls.
func targets(h api.Hier) [][]int {
	w := finderOf(h)
	out := make([][]int, len(h.Sites))
	for i := range h.Sites {
		out[i] = w.called(h.Sites[i : i+1])
	}
	return out
}

// called: the functions that some sites call, each once.
func (w *finder) called(sites []api.Site) []int {
	w.lists++
	var list []int
	for _, s := range sites {
		if s.Iface == direct {
			list = w.put(list, s.To)
			continue
		}
		count, all := w.count(s.Iface), len(w.Ifaces[s.Iface])
		for _, one := range w.holders[s.Method] {
			if count[one.class] == all {
				list = w.put(list, one.f)
			}
		}
	}
	return list
}

func (w *finder) put(list []int, f int) []int {
	if w.marks[f] == w.lists {
		return list
	}
	w.marks[f] = w.lists
	return append(list, f)
}

// count is kept for the sites to come: many may name one interface.
func (w *finder) count(iface int) []int {
	if list, ok := w.counts[iface]; ok {
		return list
	}
	list := make([]int, len(w.Classes))
	for _, name := range w.Ifaces[iface] {
		for _, one := range w.holders[name] {
			list[one.class]++
		}
	}
	w.counts[iface] = list
	return list
}

// copied: the same in memory of its own.
func copied(h api.Hier) api.Hier {
	out := api.Hier{Funcs: h.Funcs, Sites: slices.Clone(h.Sites)}
	for _, c := range h.Classes {
		out.Classes = append(out.Classes, api.Class{Methods: copiedNames(c.Methods), Funcs: slices.Clone(c.Funcs)})
	}
	for _, list := range h.Ifaces {
		out.Ifaces = append(out.Ifaces, copiedNames(list))
	}
	for i := range out.Sites {
		out.Sites[i].Method = strings.Clone(out.Sites[i].Method)
	}
	return out
}

func copiedNames(names []string) []string {
	list := make([]string, len(names))
	for i, name := range names {
		list[i] = strings.Clone(name)
	}
	return list
}
