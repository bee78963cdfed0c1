package vm

import (
	"slices"

	"halyard/api"
)

// value is a word with its kind. Among the operands, a pointer's word is 0, for it lies in its frame, where a collection and a move find it; a number lies here, since there it could look like a pointer.
type value struct{ kind, word int }

// isPointer: of any kind but Word.
func (v value) isPointer() bool { return v.kind != api.Word }

// of: the number of the type that a Ptr's or Arr's kind is of.
func (v value) of() int { return (v.kind&^api.Local - api.Ptr) / 2 }

// place: where in the top frame the word of the operand behind the last one lies.
func (m *VM) place() int {
	f := m.top()
	return f.low + len(m.operands) - f.operands
}

func (m *VM) push(kind, word int) {
	v := value{kind, word}
	if v.isPointer() {
		m.setWord(m.place(), word)
		v.word = 0
	}
	m.operands = append(m.operands, v)
}

func (m *VM) pushWord(n int) { m.push(api.Word, n) }

func (m *VM) pushTruth(holds bool) {
	n := 0
	if holds {
		n = 1
	}
	m.pushWord(n)
}

// pop takes the last operand; nothing of a pointer stays where a collection would find it.
func (m *VM) pop() value {
	last := len(m.operands) - 1
	v := m.operands[last]
	m.operands = m.operands[:last]
	if v.isPointer() {
		v.word = m.word(m.place())
		m.setWord(m.place(), 0)
	}
	return v
}

// popWord takes a number.
func (m *VM) popWord() int { return m.pop().word }

// popNamed takes a pointer that must not be nil.
func (m *VM) popNamed() value {
	v := m.pop()
	if v.word == 0 {
		trap(api.TrapNil)
	}
	return v
}

// take: the last n operands, the last one last.
func (m *VM) take(n int) []value {
	list := make([]value, n)
	for i := range slices.Backward(list) {
		list[i] = m.pop()
	}
	return list
}
