package vm

import "halyard/api"

// ending is what a run is given up with within an instruction, or ahead of the first one.
type ending struct{ end, trap, value int }

func stop(end int) { panic(ending{end: end}) }

func trap(number int) { panic(ending{end: api.Trapped, trap: number}) }

// attempt does something in which the run may end.
func (m *VM) attempt(do func(*VM)) {
	defer func() {
		if r := recover(); r != nil {
			m.finish(r.(ending))
		}
	}()
	do(m)
}

// begin: function 0's frame comes. That is no call.
func (m *VM) begin() { m.enter(0) }

// carryOut: the next instruction.
func (m *VM) carryOut() {
	f := m.top()
	in := f.Code[f.at]
	f.at++
	m.does[in.Op](m, in)
	m.report.Steps++
}

// finish: the run has ended, and only what may still be asked for is kept. An instruction that wanted for something is no step.
func (m *VM) finish(e ending) {
	if e.end == api.Exit || e.end == api.Trapped {
		m.report.Steps++
	}
	m.report.End, m.report.Trap, m.report.Value = e.end, e.trap, e.value
	*m = VM{heap: m.heap, moved: m.moved, report: m.report}
}
