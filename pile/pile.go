// Package pile has the operand stacks of which a way through a function's code knows the kinds.
package pile

import (
	"iter"
	"slices"
)

// Pile is an operand stack: some kinds, the last one on top, upon another pile. None is changed once it is made, so that the piles of a function share what they have in common: written out for each instruction, they may be far more than there is room for. A new one is empty.
type Pile struct {
	kinds []int // none in the empty pile alone
	below *Pile // nil in the empty pile alone
	depth int   // how many kinds there are in all
}

// Depth: how many kinds there are.
func (p *Pile) Depth() int { return p.depth }

// Top: the kind on top, of which there must be one.
func (p *Pile) Top() int { return p.kinds[len(p.kinds)-1] }

// With: these kinds upon it. They may not be changed any more.
func (p *Pile) With(kinds ...int) *Pile {
	if len(kinds) == 0 {
		return p
	}
	return &Pile{kinds: kinds, below: p, depth: p.depth + len(kinds)}
}

// Without: the pile, but for its n topmost kinds, of which there must be so many.
func (p *Pile) Without(n int) *Pile {
	for n >= len(p.kinds) && n > 0 {
		n -= len(p.kinds)
		p = p.below
	}
	if n == 0 {
		return p
	}
	return p.below.With(p.kinds[:len(p.kinds)-n]...)
}

// Down: the n topmost kinds from the top on, each with its number among them, the lowest one's being 0.
func (p *Pile) Down(n int) iter.Seq2[int, int] {
	return func(yield func(int, int) bool) {
		i := n
		for q := p; i > 0; q = q.below {
			for _, kind := range slices.Backward(q.kinds) {
				i--
				if i < 0 || !yield(i, kind) {
					return
				}
			}
		}
	}
}

// Same: do two piles upon the same empty one have the same kinds?
func Same(p, q *Pile) bool {
	if p.depth != q.depth {
		return false
	}
	for p != q {
		n := min(len(p.kinds), len(q.kinds))
		if !slices.Equal(p.kinds[len(p.kinds)-n:], q.kinds[len(q.kinds)-n:]) {
			return false
		}
		p, q = p.Without(n), q.Without(n)
	}
	return true
}
