package verify

import "math/bits"

// queue has numbers that wait, a bit each, so that the least is found soon, whatever the order in which they came.
type queue []uint64

// newQueue: for numbers below n.
func newQueue(n int) queue { return make(queue, n/64+1) }

func (q queue) add(n int) { q[n/64] |= 1 << (n % 64) }

// least: the least number, which waits no more; false, if none does.
func (q queue) least() (int, bool) {
	for i, word := range q {
		if word != 0 {
			q[i] = word & (word - 1)
			return 64*i + bits.TrailingZeros64(word), true
		}
	}
	return 0, false
}
