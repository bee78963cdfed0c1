package calls

import "slices"

// search goes through all functions once, deep first, and closes a group as soon as nothing can be added to it.
type search struct {
	calls   graph
	order   []int       // of each function: as the how manyth it was come to, from 1 on; 0 is not yet
	pile    []int       // what was come to and is in no group yet, in that order
	waiting map[int]int // the same, with their order
	next    int
	closed  [][]int
}

// groups: each rising, in any order.
func (g graph) groups() [][]int {
	s := search{calls: g, order: make([]int, len(g)), waiting: map[int]int{}}
	for f := range len(g) {
		if s.order[f] == 0 {
			s.visit(f)
		}
	}
	return s.closed
}

// visit: how far down the pile a function comes by calls. Where that is itself, it and all above it are a group.
func (s *search) visit(f int) int {
	s.next++
	own := s.next
	s.order[f], s.waiting[f] = own, own
	s.pile = append(s.pile, f)
	low := own
	for _, to := range s.calls[f] {
		if s.order[to] == 0 {
			low = min(low, s.visit(to))
		} else if n, waits := s.waiting[to]; waits {
			low = min(low, n)
		}
	}
	if low == own {
		s.close(f)
	}
	return low
}

// close makes a group of a function and all above it.
func (s *search) close(f int) {
	at := slices.Index(s.pile, f)
	group := slices.Clone(s.pile[at:])
	s.pile = s.pile[:at]
	for _, one := range group {
		delete(s.waiting, one)
	}
	slices.Sort(group)
	s.closed = append(s.closed, group)
}
