package closure

import (
	"slices"

	"halyard/api"
)

// spot is an MVar whose name stands free, and how many nodes are on the way to it, with it.
type spot struct {
	name string
	deep int
}

// eachFree: do is called for each of them, from the left.
func eachFree(t *api.Term, do func(spot)) { eachFreeWithin(t, nil, 1, do) }

func eachFreeWithin(t *api.Term, around *scope[string], deep int, do func(spot)) {
	if t.Op == api.MVar && binder(around, t.Name) < 0 {
		do(spot{t.Name, deep})
	}
	for i := range t.Kids {
		inside := around
		if binds(t, i) {
			inside = around.with(t.Name)
		}
		eachFreeWithin(&t.Kids[i], inside, deep+1, do)
	}
}

// binds: is the node's name bound in that one of its Kids?
func binds(t *api.Term, kid int) bool { return t.Op == api.MLam || t.Op == api.MLet && kid == 1 }

// freeNames: by their bytes, each once.
func freeNames(t *api.Term) []string {
	var names []string
	eachFree(t, func(s spot) { names = append(names, s.name) })
	slices.Sort(names)
	return slices.Compact(names)
}
