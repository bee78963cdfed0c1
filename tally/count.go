package tally

import "halyard/api"

// Count: what P20.3 speaks of. Where its words may be read in two ways, it is the lesser number.
type Count struct {
	Things, Work int
	Calls        int // the most that were within one another
}

// made: so many things.
func (r *second) made(things int) {
	r.count.Things += things
	r.count.Work += things
}

// compared: how many bytes are, to see that two strings are not the same.
func compared(a, b string) int {
	n := 0
	for n < min(len(a), len(b)) && a[n] == b[n] {
		n++
	}
	return n
}

// brought: how many boxes a literal brings along: the variables that it names, and does not declare.
func (r *second) brought(n api.Node) int {
	named, declared := map[string]struct{}{}, map[string]struct{}{}
	names(n, named, declared)
	count := 0
	for name := range named {
		_, isOutside := r.scope[name]
		_, isInside := declared[name]
		if isOutside && !isInside {
			count++
		}
	}
	return count
}

func names(n api.Node, named, declared map[string]struct{}) {
	switch n.Kind {
	case api.EName:
		named[n.Text] = struct{}{}
	case api.SVar, api.NParam:
		declared[n.Text] = struct{}{}
	case api.SDefine:
		for _, kid := range n.Kids[:n.Num] {
			declared[kid.Text] = struct{}{}
		}
	}
	for _, kid := range n.Kids {
		names(kid, named, declared)
	}
}

// Nodes of a tree.
func Nodes(n api.Node) int {
	count := 1
	for _, kid := range n.Kids {
		count += Nodes(kid)
	}
	return count
}

// Widest: the nodes of the function or method that has most of them.
func Widest(prog api.Node) int {
	most := 0
	for _, n := range prog.Kids {
		if n.Kind == api.NFunc || n.Kind == api.NMethod {
			most = max(most, Nodes(n))
		}
	}
	return most
}
