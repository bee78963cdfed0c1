package vm

import (
	"slices"

	"halyard/api"
	"halyard/verify"
)

// routine is a function with what its frames need: a frame has the locals, then the areas, then its part of the operand stack.
type routine struct {
	api.Func
	number int
	areas  []int  // where in a frame each of its areas begins
	low    int    // where in a frame the operand stack begins
	ptrs   []bool // which of a frame's words are pointers
}

// frame is one of a routine's; its words lie on the stack.
type frame struct {
	*routine
	at       int // the instruction at which it goes on
	operands int // how many operands the frames below it have
}

// top: the frame that is carried out.
func (m *VM) top() *frame { return &m.frames[len(m.frames)-1] }

// enter: a new frame of a function, all its words zero.
func (m *VM) enter(f int) {
	if m.routines[f] == nil {
		m.routines[f] = m.routine(f)
	}
	r := m.routines[f]
	if m.stack.Push(r.ptrs) != api.OK {
		stop(api.NoStack)
	}
	m.frames = append(m.frames, frame{routine: r, operands: len(m.operands)})
}

// leave: the frame goes.
func (m *VM) leave() {
	m.stack.Pop()
	m.frames = m.frames[:len(m.frames)-1]
}

// routine: of a function. If even the whole stack were too small for a frame, the run ends ahead of laying it out: it might be huge.
func (m *VM) routine(f int) *routine {
	words := m.frameWords(f)
	if words > m.config.Stack {
		stop(api.NoStack)
	}
	r := &routine{Func: m.prog.Funcs[f], number: f}
	r.ptrs = appendPointers(make([]bool, 0, words), r.Locals)
	for _, t := range r.Areas {
		r.areas = append(r.areas, len(r.ptrs))
		r.ptrs = appendPointers(r.ptrs, m.prog.Types[t].Fields)
	}
	r.low = len(r.ptrs)
	for len(r.ptrs) < words {
		r.ptrs = append(r.ptrs, true) // numbers among the operands do not lie there
	}
	return r
}

// appendPointers: which words of these kinds are pointers, behind what is known already.
func appendPointers(ptrs []bool, kinds []int) []bool {
	for _, kind := range kinds {
		ptrs = append(ptrs, kind != api.Word)
	}
	return ptrs
}

// frameWords: how many words a frame of a function has. Each time that verify is asked it looks at the whole program, so the other functions' code, which is sound, is left out.
func (m *VM) frameWords(f int) int {
	p := m.prog
	p.Funcs = slices.Clone(m.prog.Funcs)
	short := []api.Instr{{Op: api.OpHalt}}
	for i := range p.Funcs {
		if i != f {
			p.Funcs[i].Code = short
		}
	}
	words, _ := verify.Size(p, f)
	return words
}

// address: of a word of the top frame.
func (m *VM) address(i int) int {
	at, _ := m.stack.Addr(len(m.frames)-1, i)
	return at
}

// word: one of the top frame's.
func (m *VM) word(i int) int {
	v, _ := m.stack.Get(m.address(i))
	return v
}

func (m *VM) setWord(i, v int) { m.stack.Set(m.address(i), v) }
