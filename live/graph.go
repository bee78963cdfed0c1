package live

import (
	"slices"

	"halyard/api"
)

// none: what Doms tells where there is no such block.
const none = -1

// graph has of each block others: those at which it may go on, or those that may go on there.
type graph []set

func goOn(blocks []api.Block) graph {
	g := make(graph, len(blocks))
	for b, block := range blocks {
		for _, next := range block.Next {
			g[b].add(next)
		}
	}
	return g
}

func comeFrom(blocks []api.Block) graph {
	g := make(graph, len(blocks))
	for b, block := range blocks {
		for _, next := range block.Next {
			g[next].add(b)
		}
	}
	return g
}

// order: the blocks that are come to from block 0, the one that is done last first.
func order(blocks []api.Block) []int {
	var begun set
	var list []int
	var visit func(b int)
	visit = func(b int) {
		if begun.has(b) {
			return
		}
		begun.add(b)
		for _, next := range blocks[b].Next {
			visit(next)
		}
		list = append(list, b)
	}
	if len(blocks) > 0 {
		visit(0)
	}
	slices.Reverse(list)
	return list
}

// around: one block, and those to which there are ways from block 0 that do not go through it.
func (g graph) around(one int) set {
	var seen set
	seen.add(one)
	var visit func(b int)
	visit = func(b int) {
		if seen.has(b) {
			return
		}
		seen.add(b)
		g[b].less(seen).each(visit)
	}
	visit(0)
	return seen
}

// doms: a block through which all ways to another go stands ahead of that one in the order. So of several the last counts: all ways go through the others ahead of it.
func doms(blocks []api.Block) []int {
	g, come := goOn(blocks), order(blocks)
	list := slices.Repeat([]int{none}, len(blocks))
	for _, d := range come {
		seen := g.around(d)
		for _, b := range come {
			if !seen.has(b) {
				list[b] = d
			}
		}
	}
	return list
}
