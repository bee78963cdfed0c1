package slots

// queue is a heap of slots: the least first.
type queue []int

func (q queue) Len() int { return len(q) }

func (q queue) Less(i, k int) bool { return q[i] < q[k] }

func (q queue) Swap(i, k int) { q[i], q[k] = q[k], q[i] }

// Push is called by container/heap alone, as Pop is.
func (q *queue) Push(x any) { *q = append(*q, x.(int)) }

func (q *queue) Pop() any {
	last := len(*q) - 1
	slot := (*q)[last]
	*q = (*q)[:last]
	return slot
}

// taken is a heap of slots that ranges have: the one first whose range ends first.
type taken struct {
	queue
	until []int // of each slot that there is: where its last range ends; it changes only while the slot is not in the heap
}

func (t taken) Less(i, k int) bool { return t.until[t.queue[i]] < t.until[t.queue[k]] }

func (t taken) firstEnd() int { return t.until[t.queue[0]] }
