package escape

import (
	"slices"

	"halyard/api"
)

const (
	heap    = -1 // as a root, and as what a flow goes to
	address = -1 // what a point comes with, if its address does
	apart   = -2 // what is told of a point that does not come

	// No point comes with more: of all ways to it the least counts, and there is one that goes through no point twice.
	unbounded = api.MaxPoints * api.MaxDepth
)

// flow is one from a node, told by its place in the graph.
type flow struct{ from, refs int }

// graph has the flows to the heap, and behind these those to each point.
type graph [][]flow

// place is where the heap or a point stands in a graph.
func place(p int) int { return p + 1 }

func graphOf(points []api.Point, flows []api.Flow) graph {
	g := make(graph, place(len(points)))
	for _, f := range flows {
		to := place(f.To)
		g[to] = append(g[to], flow{from: place(f.From), refs: f.Refs})
	}
	return g
}

// reach: the least with which each point comes to a root. What is more than the bound counts as the bound.
func (g graph) reach(root, bound int) []int {
	least, waits := slices.Repeat([]int{apart}, len(g)), make([]bool, len(g))
	least[place(root)] = 0
	for queue := []int{place(root)}; len(queue) > 0; {
		to := queue[0]
		queue, waits[to] = queue[1:], false
		for _, f := range g[to] {
			d := min(max(least[to], 0)+f.refs, bound)
			if least[f.from] != apart && least[f.from] <= d {
				continue
			}
			least[f.from] = d
			if !waits[f.from] {
				queue, waits[f.from] = append(queue, f.from), true
			}
		}
	}
	return least[place(0):]
}

// addresses: the points whose addresses come to a root. A way without circles takes off no more than there are points, and a circle that takes off anything comes down from however much; so what is more than that counts alike. Else a circle that takes off one each time would be gone round for very long.
func (g graph) addresses(root int) []int {
	var list []int
	for p, least := range g.reach(root, len(g)) {
		if least == address {
			list = append(list, p)
		}
	}
	return list
}
