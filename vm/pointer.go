package vm

import "halyard/api"

func (m *VM) element(in api.Instr) { m.push(api.Ptr+2*in.A, m.object(in.A, 1)) }

func (m *VM) array(in api.Instr) {
	n := m.popWord()
	switch {
	case n < 0:
		trap(api.TrapRange)
	case n > api.MaxLen:
		trap(api.TrapLarge)
	}
	m.push(api.Arr+2*in.A, m.object(in.A, n))
}

func (m *VM) text(in api.Instr) {
	text := m.prog.Strs[in.A]
	obj := m.object(in.B, len(text))
	for i := range len(text) {
		m.heap.Set(obj+i, int(text[i]))
	}
	m.push(api.Arr+2*in.B, obj)
}

func (m *VM) area(in api.Instr) {
	f := m.top()
	m.push(api.Local+api.Ptr+2*f.Areas[in.A], m.address(f.areas[in.A]))
}

func (m *VM) load(in api.Instr) {
	p := m.popNamed()
	v, _ := m.memory(p.word).Get(p.word + in.A)
	m.push(m.prog.Types[p.of()].Fields[in.A], v)
}

func (m *VM) store(in api.Instr) {
	v := m.pop()
	p := m.popNamed()
	m.memory(p.word).Set(p.word+in.A, v.word)
}

func (m *VM) field(in api.Instr) {
	p := m.popNamed()
	m.push(p.kind&api.Local+api.Ptr+2*in.B, p.word+in.A)
}

func (m *VM) index(api.Instr) {
	i := m.popWord()
	list := m.popNamed()
	_, t, n, _ := m.heap.Base(list.word)
	if i < 0 || i >= n {
		trap(api.TrapRange)
	}
	m.push(list.kind-api.Arr+api.Ptr, list.word+i*len(m.prog.Types[t].Fields))
}

// length: of nil there is no object, and the answer beside that is 0.
func (m *VM) length(api.Instr) {
	_, _, n, _ := m.heap.Base(m.pop().word)
	m.pushWord(n)
}

// box: what is boxed is on the stack till the box is there, so that a collection finds it.
func (m *VM) box(api.Instr) {
	obj := m.object(len(m.prog.Types), 1)
	p := m.pop()
	m.heap.Set(obj, p.of())
	m.heap.Set(obj+1, p.word)
	m.push(api.Any, obj)
}

func (m *VM) tag(api.Instr) { m.pushWord(m.open(m.pop().word).t) }

func (m *VM) unbox(in api.Instr) {
	c := m.open(m.pop().word)
	if c.t != in.A {
		trap(api.TrapKind)
	}
	m.push(api.Ptr+2*in.A, c.p)
}
