package verify

import (
	"halyard/api"
	"halyard/pile"
)

// flow is the way through a function's code.
type flow struct {
	place
	prog  api.Prog
	fn    api.Func
	ahead []*pile.Pile // what stands on the stack ahead of each instruction that has been come to
	waits queue        // those that have been come to and not been looked at
	most  int          // the greatest depth of a stack
}

// follow goes through the code of a function of a program whose heads are right, and gives up at its first fault.
func follow(p api.Prog, f int) *flow {
	fn := p.Funcs[f]
	w := &flow{place: place{f: f}, prog: p, fn: fn, ahead: make([]*pile.Pile, len(fn.Code)), waits: newQueue(len(fn.Code))}
	w.come(0, &pile.Pile{})
	for at, ok := w.waits.least(); ok; at, ok = w.waits.least() {
		w.at = at
		w.look(fn.Code[at], w.ahead[at])
	}
	return w
}

// look goes through what must be right of one instruction, in the order in which faults are told, and comes to those behind it.
func (w *flow) look(in api.Instr, ahead *pile.Pile) {
	w.require(w.names(in), api.ErrRange)
	n, fine := w.takes(in)
	w.require(ahead.Depth() >= n && (in.Op != api.OpRet || ahead.Depth() == n), api.ErrStack)
	top, low := w.take(ahead, n, fine)
	behind := ahead.Without(n).With(w.puts(in, top, low)...)
	w.most = max(w.most, behind.Depth())
	nexts := w.nexts(in)
	for _, next := range nexts {
		w.require(within(next, len(w.fn.Code)), api.ErrJump)
	}
	for _, next := range nexts {
		w.come(next, behind)
	}
}

// take: the topmost and the lowest one of the n kinds on top, which must be fine.
func (w *flow) take(from *pile.Pile, n int, fine must) (top, low int) {
	for i, kind := range from.Down(n) {
		w.require(fine(i, kind), api.ErrKind)
		if i == n-1 {
			top = kind
		}
		low = kind
	}
	return top, low
}

// come: an instruction is come to with a stack, perhaps again.
func (w *flow) come(at int, s *pile.Pile) {
	if w.ahead[at] == nil {
		w.ahead[at] = s
		w.waits.add(at)
	}
	w.require(pile.Same(w.ahead[at], s), api.ErrStack)
}
