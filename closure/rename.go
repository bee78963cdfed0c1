package closure

import (
	"slices"
	"strconv"

	"halyard/api"
)

// change is a binder's name, and the one that it gets.
type change struct{ old, new string }

// renamer copies terms. Binders get new names in the order in which it comes to them.
type renamer struct {
	count int
	free  []string // what stands free in the whole, sorted: no binder gets these
}

func (r *renamer) next() string {
	for {
		r.count++
		name := "x" + strconv.Itoa(r.count)
		if _, isFree := slices.BinarySearch(r.free, name); !isFree {
			return name
		}
	}
}

// term: a copy; for each MVar whose name stands free there is what free tells.
func (r *renamer) term(t *api.Term, around *scope[change], free func(*api.Term) api.Term) api.Term {
	if t.Op == api.MVar {
		far := around.find(func(c change) bool { return c.old == t.Name })
		if far < 0 {
			return free(t)
		}
		return api.Term{Op: api.MVar, Name: around.at(far).new}
	}
	out := api.Term{Op: t.Op, Num: t.Num}
	inside := around
	if t.Op == api.MLam || t.Op == api.MLet {
		out.Name = r.next()
		inside = around.with(change{t.Name, out.Name})
	}
	for i := range t.Kids {
		here := around
		if binds(t, i) {
			here = inside
		}
		out.Kids = append(out.Kids, r.term(&t.Kids[i], here, free))
	}
	return out
}

// itself: an MVar of the name alone, for the one that is handed in may have an empty list with room.
func itself(t *api.Term) api.Term { return api.Term{Op: api.MVar, Name: t.Name} }

func renamed(t *api.Term) api.Term {
	r := renamer{free: freeNames(t)}
	return r.term(t, nil, itself)
}

// replaced: t, renamed, with by wherever name stands free. No new name stands free anywhere in it, so that nothing of by is caught.
func replaced(t *api.Term, name string, by *api.Term) api.Term {
	r := renamer{free: freeNames(t)}
	if at, has := slices.BinarySearch(r.free, name); has {
		r.free = append(slices.Delete(r.free, at, at+1), freeNames(by)...)
		slices.Sort(r.free)
	}
	return r.term(t, nil, func(v *api.Term) api.Term {
		if v.Name == name {
			return r.term(by, nil, itself)
		}
		return itself(v)
	})
}

// fits: is t still sound with by wherever name stands free?
func fits(t *api.Term, name string, by *api.Term) bool {
	nodes, deep := size(t)
	more, deeper := size(by)
	eachFree(t, func(s spot) {
		if s.name == name {
			nodes += more - 1
			deep = max(deep, s.deep+deeper-1)
		}
	})
	return nodes <= api.MaxTerm && deep <= api.MaxDepth
}

// size: how many nodes, and how many on the longest way.
func size(t *api.Term) (nodes, deep int) {
	for i := range t.Kids {
		more, deeper := size(&t.Kids[i])
		nodes += more
		deep = max(deep, deeper)
	}
	return nodes + 1, deep + 1
}
