package slots

import "container/heap"

// places are the slots that there are: each one is free or taken.
type places struct {
	free  queue
	taken taken
}

func (p *places) count() int { return len(p.taken.until) }

// release: the slots whose ranges have ended by this moment come free.
func (p *places) release(at int) {
	for p.taken.Len() > 0 && p.taken.firstEnd() <= at {
		heap.Push(&p.free, heap.Pop(&p.taken).(int))
	}
}

// take: the least free slot, or a new one where none is free, for a range that ends there.
func (p *places) take(end int) int {
	slot := p.count()
	if p.free.Len() > 0 {
		slot = heap.Pop(&p.free).(int)
		p.taken.until[slot] = end
	} else {
		p.taken.until = append(p.taken.until, end)
	}
	heap.Push(&p.taken, slot)
	return slot
}
