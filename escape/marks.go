package escape

import "halyard/api"

// hold: the address of x comes to a root.
type hold struct{ root, x int }

// holds: whose addresses come to the heap, and to each point.
func (g graph) holds() []hold {
	var list []hold
	for root := heap; place(root) < len(g); root++ {
		for _, x := range g.addresses(root) {
			list = append(list, hold{root: root, x: x})
		}
	}
	return list
}

// escaping: of each point of a sound graph, does it escape? What is marked may mark others, so all is gone through till nothing more is.
func escaping(points []api.Point, flows []api.Flow) []bool {
	escapes := make([]bool, len(points))
	marked := func(h hold) bool {
		return h.root == heap || points[h.root].Depth < points[h.x].Depth || escapes[h.root]
	}
	holds := graphOf(points, flows).holds()
	for more := true; more; {
		more = false
		for _, h := range holds {
			if !escapes[h.x] && marked(h) {
				escapes[h.x], more = true, true
			}
		}
	}
	return escapes
}
