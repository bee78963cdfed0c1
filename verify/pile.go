package verify

import (
	"iter"
	"slices"
)

// pile is an operand stack: some kinds, the last one on top, upon another pile. None is changed once it is made, so that the piles of a function share what they have in common: written out for each instruction, they may be far more than there is room for.
type pile struct {
	kinds []int // none in the empty pile alone
	below *pile // nil in the empty pile alone
	depth int   // how many kinds there are in all
}

// with: these kinds upon it.
func (p *pile) with(kinds ...int) *pile {
	if len(kinds) == 0 {
		return p
	}
	return &pile{kinds: kinds, below: p, depth: p.depth + len(kinds)}
}

// without: the pile, but for its n topmost kinds.
func (p *pile) without(n int) *pile {
	for n >= len(p.kinds) && n > 0 {
		n -= len(p.kinds)
		p = p.below
	}
	if n == 0 {
		return p
	}
	return p.below.with(p.kinds[:len(p.kinds)-n]...)
}

// down: the n topmost kinds from the top on, each with its number among them, the lowest one's being 0.
func (p *pile) down(n int) iter.Seq2[int, int] {
	return func(yield func(int, int) bool) {
		i := n
		for q := p; i > 0; q = q.below {
			for _, kind := range slices.Backward(q.kinds) {
				i--
				if i < 0 || !yield(i, kind) {
					return
				}
			}
		}
	}
}

// list: all its kinds, the top last.
func (p *pile) list() []int {
	kinds := make([]int, p.depth)
	for i, kind := range p.down(p.depth) {
		kinds[i] = kind
	}
	return kinds
}

// same: do two piles upon the same empty one have the same kinds?
func same(p, q *pile) bool {
	if p.depth != q.depth {
		return false
	}
	for p != q {
		n := min(len(p.kinds), len(q.kinds))
		if !slices.Equal(p.kinds[len(p.kinds)-n:], q.kinds[len(q.kinds)-n:]) {
			return false
		}
		p, q = p.without(n), q.without(n)
	}
	return true
}
