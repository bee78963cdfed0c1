package vm_test

import (
	"fmt"
	"reflect"
	"slices"
	"strings"
	"testing"

	"halyard/api"
	"halyard/verify"
	"halyard/vm"
)

const (
	word = api.Word
	some = api.Any
)

func ptr(t int) int      { return api.Ptr + 2*t }
func arr(t int) int      { return api.Arr + 2*t }
func stays(kind int) int { return api.Local + kind }

func in(op int, ab ...int) api.Instr {
	i := api.Instr{Op: op}
	if len(ab) > 0 {
		i.A = ab[0]
	}
	if len(ab) > 1 {
		i.B = ab[1]
	}
	return i
}

var (
	halt = in(api.OpHalt)
	out  = in(api.OpOut)
	pop  = in(api.OpPop)
	dup  = in(api.OpDup)
	same = in(api.OpSame)
	ret  = in(api.OpRet)
)

func num(n int) api.Instr   { return in(api.OpInt, n) }
func get(i int) api.Instr   { return in(api.OpGet, i) }
func set(i int) api.Instr   { return in(api.OpSet, i) }
func load(f int) api.Instr  { return in(api.OpLoad, f) }
func store(f int) api.Instr { return in(api.OpStore, f) }
func area(a int) api.Instr  { return in(api.OpArea, a) }
func made(t int) api.Instr  { return in(api.OpNew, t) }
func call(f int) api.Instr  { return in(api.OpCall, f) }

// The world's types, by what they have.
const (
	cell   = 0 // a number
	link   = 1 // a number and a link
	toLink = 2 // a link
	holder = 3 // an Any
	text   = 4 // numbers
	mixed  = 5 // links, a cell, an Any and a number
	pair   = 6 // two numbers
)

// types are the world's.
func types() []api.Layout {
	var list []api.Layout
	for _, fields := range [][]int{{word}, {word, ptr(link)}, {ptr(link)}, {some}, {arr(cell)}, {arr(link), ptr(cell), some, word}, {word, word}} {
		list = append(list, api.Layout{Fields: fields})
	}
	return list
}

// The world's function 0 has a local of each of these kinds, in their order.
const (
	aWord = iota
	anAny
	aLink
	links
	nearLink
	nearLinks
	cells
	bWord
)

func locals() []int {
	return []int{word, some, ptr(link), arr(link), stays(ptr(link)), stays(arr(link)), arr(cell), word}
}

// The world's other functions.
const (
	square  = 1 // of a number
	turn    = 2 // three things, from the last to the first
	nothing = 3
	cube    = 4 // of a number; it has other locals and an area
	grow    = 5 // a new link in front of one
	first   = 6 // of a link that may be near: its number
	deep    = 7 // it calls itself n times, and answers n
)

// world is a program with something of everything, whose function 0 has this code.
func world(list ...api.Instr) api.Prog {
	mul := in(api.OpArith, api.Mul)
	return api.Prog{
		Types: types(),
		Funcs: []api.Func{
			{Locals: locals(), Areas: []int{link, cell, mixed}, Code: list},
			{Params: 1, Locals: []int{word}, Results: []int{word}, Code: []api.Instr{get(0), dup, mul, ret}},
			{Params: 3, Locals: []int{word, some, ptr(link)}, Results: []int{ptr(link), some, word}, Code: []api.Instr{get(2), get(1), get(0), ret}},
			{Code: []api.Instr{ret}},
			{Params: 1, Locals: []int{word, ptr(holder), word}, Results: []int{word}, Areas: []int{pair}, Code: []api.Instr{get(0), dup, mul, set(2), get(2), get(0), mul, ret}},
			{Params: 1, Locals: []int{ptr(link), ptr(link)}, Results: []int{ptr(link)}, Code: []api.Instr{made(link), dup, get(0), store(1), ret}},
			{Params: 1, Locals: []int{stays(ptr(link))}, Results: []int{word}, Code: []api.Instr{get(0), load(0), ret}},
			{Params: 1, Locals: []int{word}, Results: []int{word}, Code: []api.Instr{
				get(0), in(api.OpIf, 4), num(0), ret,
				get(0), num(1), in(api.OpArith, api.Sub), call(deep), num(1), in(api.OpArith, api.Add), ret}},
		},
		Tables: [][]int{{square, cube}, {nothing, 0}, {deep, cube, square}},
		Strs:   []string{"", "hi\x00\xff", strings.Repeat("z", api.MaxLen)},
	}
}

// steps of the world's deep, of n.
func deepSteps(n int) int { return 4 + 9*n }

func join(lists ...[]api.Instr) []api.Instr { return slices.Concat(lists...) }

func code(list ...api.Instr) []api.Instr { return list }

// roomy is a configuration with enough of everything.
func roomy() api.Config { return api.Config{Heap: 4000, Stack: 4000, Fuel: 10000} }

// always: all of the first n.
func always(n int) []bool { return slices.Repeat([]bool{true}, n) }

// flags: configurations that differ from c in when all is collected and when the stack moves.
func flags(c api.Config) []api.Config {
	list := []api.Config{c, c, c, c}
	list[1].Collects, list[1].Moves = always(3000), always(3000)
	list[2].Collects, list[2].Moves = []bool{false, true, false, false, true}, []bool{true, false, true}
	list[3].Collects, list[3].Moves = []bool{true}, []bool{false, true, true, true}
	return list
}

func told(p api.Prog) string {
	text := fmt.Sprint(p.Funcs, p.Tables, p.Types)
	return text[:min(len(text), 1000)]
}

func equal(a, b api.Report) bool {
	return string(a.Out) == string(b.Out) && a.End == b.End && a.Trap == b.Trap && a.Value == b.Value && a.Steps == b.Steps && a.Allocs == b.Allocs
}

// report: how a run ends, with what is most often asked of it.
func report(end int, out string, steps, allocs int) api.Report {
	return api.Report{End: end, Out: []byte(out), Steps: steps, Allocs: allocs}
}

func trapped(trap int, out string, steps, allocs int) api.Report {
	r := report(api.Trapped, out, steps, allocs)
	r.Trap = trap
	return r
}

// ran: a machine whose run has ended as it should.
func ran(t *testing.T, p api.Prog, c api.Config, want api.Report) *vm.VM {
	t.Helper()
	m := vm.New(p, c)
	if got := m.Run(); !equal(got, want) {
		t.Fatalf("%+v; want %+v; %s", got, want, told(p))
	}
	if got := m.Report(); !equal(got, want) {
		t.Fatalf("Report: %+v; want %+v", got, want)
	}
	if m.Step() || len(m.Frames()) != 0 || !equal(m.Run(), want) {
		t.Fatalf("it goes on behind its end: %v, %+v", m.Frames(), m.Report())
	}
	return m
}

// wantRun: however often all is collected and the stack moves.
func wantRun(t *testing.T, p api.Prog, want api.Report) {
	t.Helper()
	if _, _, e := verify.Check(p); e != api.OK {
		t.Fatalf("it is not sound: %d; %s", e, told(p))
	}
	for _, c := range flags(roomy()) {
		ran(t, p, c, want)
	}
}

// wantOut: the code runs to the halt behind it, each instruction once, and writes this.
func wantOut(t *testing.T, want string, allocs int, list ...api.Instr) {
	t.Helper()
	wantRun(t, world(append(list, halt)...), report(api.Exit, want, len(list)+1, allocs))
}

// wantTrap: the last instruction of the code traps.
func wantTrap(t *testing.T, trap int, allocs int, list ...api.Instr) {
	t.Helper()
	wantRun(t, world(append(list, halt)...), trapped(trap, "", len(list), allocs))
}

// The chapter's examples.
func TestExamples(t *testing.T) {
	p := api.Prog{Funcs: []api.Func{{Code: code(num(7), out, halt)}}}
	c := api.Config{Stack: 1, Fuel: 3}
	ran(t, p, c, report(api.Exit, "7", 3, 0))
	p = api.Prog{Types: types(), Funcs: []api.Func{{Code: code(in(api.OpNil, ptr(cell)), load(0), pop, halt)}}}
	ran(t, p, c, trapped(api.TrapNil, "", 2, 0))
}

// P12.3: what can be asked for between the steps.
func TestStepByStep(t *testing.T) {
	c := roomy()
	c.Collects, c.Moves = []bool{false, false, false, true}, []bool{false, true}
	m := vm.New(world(made(link), call(grow), pop, num(3), num(0), in(api.OpDyn), out, made(cell), halt), c)
	for k, want := range []struct {
		more           bool
		frames         []int
		out            string
		steps, allocs  int
		objects, moved int
	}{
		{true, []int{0}, "", 1, 1, 1, 0},
		{true, []int{0, grow}, "", 2, 1, 1, 0},
		{true, []int{0, grow}, "", 3, 2, 2, 0},
		{true, []int{0, grow}, "", 4, 2, 2, 0},
		{true, []int{0, grow}, "", 5, 2, 2, 0},
		{true, []int{0, grow}, "", 6, 2, 2, 0},
		{true, []int{0}, "", 7, 2, 2, 0},
		{true, []int{0}, "", 8, 2, 2, 0},
		{true, []int{0}, "", 9, 2, 2, 0},
		{true, []int{0}, "", 10, 2, 2, 0},
		{true, []int{0, square}, "", 11, 2, 2, 1},
		{true, []int{0, square}, "", 12, 2, 2, 1},
		{true, []int{0, square}, "", 13, 2, 2, 1},
		{true, []int{0, square}, "", 14, 2, 2, 1},
		{true, []int{0}, "", 15, 2, 2, 1},
		{true, []int{0}, "9", 16, 2, 2, 1},
		{true, []int{0}, "9", 17, 3, 3, 1},
		{false, nil, "9", 18, 3, 3, 1},
		{false, nil, "9", 18, 3, 3, 1},
	} {
		end := api.Running
		if !want.more {
			end = api.Exit
		}
		if more := m.Step(); more != want.more || !equal(m.Report(), report(end, want.out, want.steps, want.allocs)) {
			t.Fatalf("step %d: %v, %+v; want %+v", k, more, m.Report(), want)
		}
		if !slices.Equal(m.Frames(), want.frames) || m.Objects() != want.objects || m.Moved() != want.moved {
			t.Fatalf("step %d: frames %v, %d objects, moved %d; want %+v", k, m.Frames(), m.Objects(), m.Moved(), want)
		}
	}
}

// P12.1: ahead of the first step nothing has been done.
func TestNew(t *testing.T) {
	m := vm.New(world(num(1), out, made(cell), pop, call(nothing), halt), api.Config{Heap: 9, Stack: 99, Fuel: 9, Collects: always(1), Moves: always(1)})
	if r := m.Report(); !equal(r, api.Report{}) || !slices.Equal(m.Frames(), []int{0}) || m.Objects() != 0 || m.Moved() != 0 {
		t.Errorf("%+v, %v, %d objects, moved %d", r, m.Frames(), m.Objects(), m.Moved())
	}
	if r := m.Run(); !equal(r, report(api.Exit, "1", 7, 1)) || m.Moved() != 1 {
		t.Errorf("%+v, moved %d", r, m.Moved())
	}
}

// P12.2: Run goes on where steps have left off, and a report tells of the middle of a run.
func TestRunBehindSteps(t *testing.T) {
	p := world(num(12), out, num(34), out, num(56), out, halt)
	for n := range 9 {
		m := vm.New(p, roomy())
		for range n {
			m.Step()
		}
		if n < 7 {
			want := report(api.Running, "123456"[:n/2*2], n, 0)
			if r := m.Report(); !reflect.DeepEqual(r.Out, want.Out) && n > 1 || !equal(r, want) {
				t.Errorf("behind %d steps: %+v", n, r)
			}
		}
		if r := m.Run(); !equal(r, report(api.Exit, "123456", 7, 0)) {
			t.Errorf("Run behind %d steps: %+v", n, r)
		}
	}
}
