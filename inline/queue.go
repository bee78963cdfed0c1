package inline

// waiting is a site that is not looked at yet, with the size that its To had when it was put into the queue.
type waiting struct{ site, size int }

// queue is a heap: the least size first, of several the least site.
type queue []waiting

func (q queue) Len() int { return len(q) }

func (q queue) Less(i, k int) bool {
	if q[i].size != q[k].size {
		return q[i].size < q[k].size
	}
	return q[i].site < q[k].site
}

func (q queue) Swap(i, k int) { q[i], q[k] = q[k], q[i] }

// Push is called by container/heap alone, as Pop is.
func (q *queue) Push(x any) { *q = append(*q, x.(waiting)) }

func (q *queue) Pop() any {
	last := len(*q) - 1
	one := (*q)[last]
	*q = (*q)[:last]
	return one
}
