package calls

import "halyard/api"

// graph has of each function those that it calls, each once.
type graph [][]int

func graphOf(h api.Hier) graph {
	sites := make([][]api.Site, h.Funcs)
	for _, s := range h.Sites {
		sites[s.From] = append(sites[s.From], s)
	}
	w, g := finderOf(h), make(graph, h.Funcs)
	for f := range h.Funcs {
		g[f] = w.called(sites[f])
	}
	return g
}

// reach: what is not come to yet waits; what still waits at the end never is.
func (g graph) reach(from int) []bool {
	waiting := map[int]struct{}{}
	for f := range len(g) {
		waiting[f] = struct{}{}
	}
	delete(waiting, from)
	for pile := []int{from}; len(pile) > 0; {
		f := pile[len(pile)-1]
		pile = pile[:len(pile)-1]
		for _, to := range g[f] {
			if _, waits := waiting[to]; waits {
				delete(waiting, to)
				pile = append(pile, to)
			}
		}
	}
	come := make([]bool, len(g))
	for f := range len(g) {
		_, waits := waiting[f]
		come[f] = !waits
	}
	return come
}
