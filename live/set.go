package live

import (
	"math/bits"

	"halyard/api"
)

const wordBits = 64

// set has a bit for each block.
type set [api.MaxPoints / wordBits]uint64

func (s *set) add(b int) { s[b/wordBits] |= 1 << (b % wordBits) }

func (s *set) join(t set) {
	for w := range s {
		s[w] |= t[w]
	}
}

func (s set) has(b int) bool { return s[b/wordBits]>>(b%wordBits)&1 != 0 }

// less: the set without what another has.
func (s set) less(t set) set {
	for w := range s {
		s[w] &^= t[w]
	}
	return s
}

// each: something is done for all blocks of the set, rising.
func (s set) each(do func(b int)) {
	for w, word := range s {
		for bit := range bits.Len64(word) {
			if word>>bit&1 != 0 {
				do(w*wordBits + bit)
			}
		}
	}
}
