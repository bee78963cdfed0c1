package vm

import (
	"strconv"

	"halyard/api"
)

func instructions() map[int]func(*VM, api.Instr) {
	return map[int]func(*VM, api.Instr){
		api.OpInt:   (*VM).number,
		api.OpNil:   (*VM).none,
		api.OpGet:   (*VM).local,
		api.OpSet:   (*VM).setLocal,
		api.OpPop:   (*VM).drop,
		api.OpDup:   (*VM).double,
		api.OpArith: (*VM).arith,
		api.OpSame:  (*VM).same,
		api.OpJump:  (*VM).jump,
		api.OpIf:    (*VM).jumpIf,
		api.OpNew:   (*VM).element,
		api.OpMake:  (*VM).array,
		api.OpArea:  (*VM).area,
		api.OpLoad:  (*VM).load,
		api.OpStore: (*VM).store,
		api.OpAddr:  (*VM).field,
		api.OpElem:  (*VM).index,
		api.OpLen:   (*VM).length,
		api.OpBox:   (*VM).box,
		api.OpTag:   (*VM).tag,
		api.OpUnbox: (*VM).unbox,
		api.OpCall:  (*VM).call,
		api.OpDyn:   (*VM).callItem,
		api.OpRet:   (*VM).back,
		api.OpOut:   (*VM).out,
		api.OpPut:   (*VM).put,
		api.OpTrap:  (*VM).giveUp,
		api.OpHalt:  (*VM).halt,
		api.OpStr:   (*VM).text,
	}
}

func (m *VM) number(in api.Instr) { m.pushWord(in.A) }

func (m *VM) none(in api.Instr) { m.push(in.A, 0) }

func (m *VM) local(in api.Instr) { m.push(m.top().Locals[in.A], m.word(in.A)) }

func (m *VM) setLocal(in api.Instr) { m.setWord(in.A, m.pop().word) }

func (m *VM) drop(api.Instr) { m.pop() }

func (m *VM) double(api.Instr) {
	v := m.pop()
	m.push(v.kind, v.word)
	m.push(v.kind, v.word)
}

func (m *VM) arith(in api.Instr) {
	y := m.popWord()
	x := m.popWord()
	switch in.A {
	case api.Eq:
		m.pushTruth(x == y)
	case api.Lt:
		m.pushTruth(x < y)
	default:
		m.pushWord(reckoned(in.A, x, y))
	}
}

// reckoned: x and y by an operation whose answer is a number.
func reckoned(op, x, y int) int {
	if y == 0 && (op == api.Div || op == api.Mod) {
		trap(api.TrapZero)
	}
	switch op {
	case api.Add:
		return x + y
	case api.Sub:
		return x - y
	case api.Mul:
		return x * y
	case api.Div:
		return x / y
	case api.Mod:
		return x % y
	case api.And:
		return x & y
	case api.Or:
		return x | y
	}
	return x ^ y
}

// same: a word has one address, and an array that of its object; of an Any its box does not count.
func (m *VM) same(api.Instr) {
	y := m.pop()
	x := m.pop()
	if x.kind == api.Any {
		m.pushTruth(m.open(x.word) == m.open(y.word))
	} else {
		m.pushTruth(x.word == y.word)
	}
}

func (m *VM) jump(in api.Instr) { m.top().at = in.A }

func (m *VM) jumpIf(in api.Instr) {
	if m.popWord() != 0 {
		m.jump(in)
	}
}

func (m *VM) call(in api.Instr) { m.callFunction(in.A) }

func (m *VM) callItem(in api.Instr) {
	items := m.prog.Tables[in.A]
	i := m.popWord()
	if i < 0 || i >= len(items) {
		trap(api.TrapRange)
	}
	m.callFunction(items[i])
}

func (m *VM) callFunction(f int) {
	args := m.take(m.prog.Funcs[f].Params)
	m.enter(f)
	for i, v := range args {
		m.setWord(i, v.word)
	}
	if item(m.config.Moves, m.calls) {
		m.move()
	}
	m.calls++
}

func (m *VM) back(api.Instr) {
	if len(m.frames) == 1 {
		stop(api.Exit)
	}
	results := m.take(len(m.top().Results))
	m.leave()
	for _, v := range results {
		m.push(v.kind, v.word)
	}
}

func (m *VM) out(api.Instr) { m.write(strconv.Itoa(m.popWord())) }

func (m *VM) put(api.Instr) { m.write(string([]byte{byte(m.popWord())})) }

// write: byte by byte, so that what there is room for is written even where the rest is too much.
func (m *VM) write(text string) {
	for i := range len(text) {
		if len(m.report.Out) == api.MaxOut {
			stop(api.OutFull)
		}
		m.report.Out = append(m.report.Out, text[i])
	}
}

func (m *VM) giveUp(in api.Instr) {
	panic(ending{end: api.Trapped, trap: in.A, value: m.popWord()})
}

func (m *VM) halt(api.Instr) { stop(api.Exit) }
