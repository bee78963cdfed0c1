package sample

import (
	"slices"

	"halyard/api"
)

// Spare: a list's whole room, that behind its end too.
func Spare[T any](list []T) []T { return list[:cap(list)] }

// InRoom: the list, with room behind its end that is full of something else.
func InRoom[T any](fill T, list []T) []T {
	room := append(slices.Clone(list), fill, fill, fill)
	return room[:len(list)]
}

// Apart: do no two of the lists share room? Each one's whole room is filled with a mark of its own, and must still have it at the end.
func Apart(lists [][]int) bool {
	for i, list := range lists {
		for k := range Spare(list) {
			Spare(list)[k] = 1000 + i
		}
	}
	for i, list := range lists {
		other := func(n int) bool { return n != 1000+i }
		if slices.ContainsFunc(Spare(list), other) {
			return false
		}
	}
	return true
}

// ProgInRoom: a program of the machine, all its lists in room.
func ProgInRoom(p api.Prog) api.Prog {
	q := api.Prog{Types: InRoom(api.Layout{Fields: []int{5}}, p.Types), Funcs: InRoom(api.Func{Params: 9}, p.Funcs)}
	q.Tables, q.Strs = InRoom([]int{77}, p.Tables), InRoom("x", p.Strs)
	for i := range q.Types {
		q.Types[i].Fields = InRoom(77, q.Types[i].Fields)
	}
	for i := range q.Funcs {
		f := &q.Funcs[i]
		f.Locals, f.Results, f.Areas = InRoom(77, f.Locals), InRoom(77, f.Results), InRoom(77, f.Areas)
		f.Code = InRoom(api.Instr{Op: 77, A: 78, B: 79}, f.Code)
	}
	for i := range q.Tables {
		q.Tables[i] = InRoom(77, q.Tables[i])
	}
	return q
}

// ProgOpened: a program of the machine with all its spare room in sight, in memory of its own.
func ProgOpened(p api.Prog) api.Prog {
	q := api.Prog{Types: opened(p.Types), Funcs: opened(p.Funcs), Tables: opened(p.Tables), Strs: opened(p.Strs)}
	for i := range q.Types {
		q.Types[i].Fields = opened(q.Types[i].Fields)
	}
	for i := range q.Funcs {
		f := &q.Funcs[i]
		f.Locals, f.Results, f.Areas, f.Code = opened(f.Locals), opened(f.Results), opened(f.Areas), opened(f.Code)
	}
	for i := range q.Tables {
		q.Tables[i] = opened(q.Tables[i])
	}
	return q
}

// HierInRoom: a Hier, all its lists in room, where there stand a class, an interface and a site that would be found.
func HierInRoom(h api.Hier) api.Hier {
	g := api.Hier{Funcs: h.Funcs}
	g.Classes = InRoom(api.Class{Methods: []string{"a", "b", "c", "d"}, Funcs: []int{1, 1, 1, 1}}, h.Classes)
	g.Ifaces = InRoom([]string{"a"}, h.Ifaces)
	g.Sites = InRoom(api.Site{From: 2, To: 3, Iface: -1}, h.Sites)
	for i := range g.Classes {
		c := &g.Classes[i]
		c.Methods, c.Funcs = InRoom("d", c.Methods), InRoom(77, c.Funcs)
	}
	for i := range g.Ifaces {
		g.Ifaces[i] = InRoom("z", g.Ifaces[i])
	}
	return g
}

// HierOpened: a Hier with all its spare room in sight, in memory of its own.
func HierOpened(h api.Hier) api.Hier {
	g := api.Hier{Funcs: h.Funcs, Classes: opened(h.Classes), Ifaces: opened(h.Ifaces), Sites: opened(h.Sites)}
	for i := range g.Classes {
		c := &g.Classes[i]
		c.Methods, c.Funcs = opened(c.Methods), opened(c.Funcs)
	}
	for i := range g.Ifaces {
		g.Ifaces[i] = opened(g.Ifaces[i])
	}
	return g
}

func opened[T any](list []T) []T { return slices.Clone(Spare(list)) }
