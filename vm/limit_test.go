package vm_test

import (
	"slices"
	"strings"
	"testing"

	"halyard/api"
)

// filled is code that writes so many bytes x, at least one.
func filled(bytes int) []api.Instr {
	return code(num(bytes), set(aWord), num('x'), in(api.OpPut), get(aWord), num(1), in(api.OpArith, api.Sub), dup, set(aWord), in(api.OpIf, 2))
}

// filledSteps: of a run of filled.
func filledSteps(bytes int) int { return 2 + 8*bytes }

// MaxOut: so many bytes are written, and ahead of the next one the run ends, within a number too.
func TestMaxOut(t *testing.T) {
	c := api.Config{Stack: 100, Fuel: api.MaxSteps}
	put := in(api.OpPut)
	for _, k := range []struct {
		room int
		put  api.Instr
		n    int
		want string
		full bool
	}{
		{1, put, 'y', "y", false},
		{0, put, 'y', "", true},
		{0, put, 0, "", true},
		{1, out, 7, "7", false},
		{0, out, 7, "", true},
		{5, out, 12345, "12345", false},
		{4, out, 12345, "1234", true},
		{1, out, 12345, "1", true},
		{0, out, 12345, "", true},
		{2, out, -1, "-1", false},
		{1, out, -1, "-", true},
		{0, out, -1, "", true},
		{20, out, -1 << 63, "-9223372036854775808", false},
		{19, out, -1 << 63, "-922337203685477580", true},
	} {
		before := api.MaxOut - k.room
		p := world(join(filled(before), code(num(k.n), k.put, halt))...)
		want := report(api.Exit, strings.Repeat("x", before)+k.want, filledSteps(before)+3, 0)
		if k.full {
			want.End, want.Steps = api.OutFull, want.Steps-2
		}
		ran(t, p, c, want)
		if full := len(want.Out) == api.MaxOut; full != (k.full || len(k.want) == k.room) {
			t.Fatalf("%d bytes", len(want.Out))
		}
	}
	p := world(join(filled(api.MaxOut), code(made(cell), pop, halt))...)
	c.Heap = 1
	ran(t, p, c, report(api.Exit, strings.Repeat("x", api.MaxOut), filledSteps(api.MaxOut)+3, 1))
	p.Funcs[0].Code = join(filled(api.MaxOut), code(num(1), call(square), out, halt))
	ran(t, p, c, report(api.OutFull, strings.Repeat("x", api.MaxOut), filledSteps(api.MaxOut)+6, 0))
}

// MaxLen: arrays and texts of so many elements.
func TestMaxLen(t *testing.T) {
	c := roomy()
	c.Heap = api.MaxLen
	for _, put := range [][]api.Instr{code(num(api.MaxLen), in(api.OpMake, cell)), code(in(api.OpStr, 2, cell))} {
		last := code(set(cells), get(cells), num(api.MaxLen-1), in(api.OpElem), load(0), out, get(cells), in(api.OpLen), out, halt)
		value := "0"
		if len(put) == 1 {
			value = "122"
		}
		ran(t, world(join(put, last)...), c, report(api.Exit, value+"1024", len(put)+10, 1))
		past := code(num(api.MaxLen), in(api.OpElem), pop, halt)
		ran(t, world(join(put, past)...), c, trapped(api.TrapRange, "", len(put)+2, 1))
	}
	ran(t, world(num(api.MaxLen+1), in(api.OpMake, cell), pop, halt), c, trapped(api.TrapLarge, "", 2, 0))
}

// Heap at its ends.
func TestHeapLimits(t *testing.T) {
	c := api.Config{Stack: 100, Fuel: api.MaxSteps}
	ran(t, world(halt), c, report(api.Exit, "", 1, 0))
	ran(t, world(made(cell), halt), c, report(api.NoMemory, "", 0, 0))
	c.Heap = 1
	ran(t, world(made(cell), halt), c, report(api.Exit, "", 2, 1))
	c.Heap = api.MaxWords
	chain := world(get(aLink), call(grow), set(aLink), in(api.OpJump, 0))
	if m := ran(t, chain, c, report(api.NoMemory, "", 9*api.MaxWords/2+2, api.MaxWords/2)); m.Objects() != api.MaxWords/2 {
		t.Errorf("%d objects", m.Objects())
	}
	c.Heap++
	ran(t, world(halt), c, report(api.Rejected, "", 0, 0))
}

// The last word of the greatest heap is still an object's, not the stack's: it is given, taken and found by collections.
func TestLastWord(t *testing.T) {
	wide := len(types())
	p := world(join(
		code(num(api.MaxLen), in(api.OpMake, wide), num(api.MaxLen-1), in(api.OpElem), in(api.OpAddr, 63, cell)),
		code(dup, num(5), store(0), area(1), num(6), store(0), dup, load(0), out, area(1), load(0), out, dup, area(1), same, out, call(nothing)),
		code(num(0), in(api.OpMake, cell), halt))...)
	p.Types = append(p.Types, api.Layout{Fields: make([]int, 64)})
	c := api.Config{Heap: api.MaxWords, Stack: 100, Fuel: 100, Collects: always(2), Moves: always(1)}
	if m := ran(t, p, c, report(api.NoMemory, "560", 5+17+1+1, 1)); m.Objects() != 1 {
		t.Errorf("%d objects", m.Objects())
	}
}

// Stack at its ends: a frame of all its words, in areas, or in areas, locals and operands.
func TestStackLimits(t *testing.T) {
	big := make([]int, api.MaxLocals)
	for i := range big {
		big[i] = []int{word, ptr(0), some, arr(1)}[i%4]
	}
	c := api.Config{Heap: 100, Stack: api.MaxWords, Fuel: 100000, Collects: always(9), Moves: always(9)}
	small := api.Layout{Fields: []int{word}}
	p := api.Prog{Types: []api.Layout{{Fields: big}, small}, Funcs: []api.Func{{Areas: make([]int, 16), Code: code(halt)}}}
	ran(t, p, c, report(api.Exit, "", 1, 0))
	c.Stack--
	ran(t, p, c, report(api.NoStack, "", 0, 0))
	c.Stack++
	p.Funcs[0].Areas = append(p.Funcs[0].Areas, 1)
	ran(t, p, c, report(api.NoStack, "", 0, 0))
	last := api.MaxLocals - 1
	p.Funcs[0] = api.Func{Locals: slices.Clone(big), Areas: make([]int, 14), Code: join(
		code(num(4), set(last-3), num(3), in(api.OpMake, 1), set(last), area(13), num(6), store(last-3), area(13), get(last), store(last), area(13), call(1)),
		code(area(13), load(last), in(api.OpLen), out, area(13), load(last-3), out, get(last-3), out, get(last), in(api.OpLen), out, area(0), load(0), out, halt))}
	p.Funcs = append(p.Funcs, api.Func{Params: 1, Locals: append([]int{stays(ptr(0))}, big[1:api.MaxLocals-4]...), Code: code(get(0), num(8), store(last-3), made(1), pop, ret)})
	ran(t, p, c, report(api.Exit, "38430", 29+6, 2))
	if n := size(t, p, 0) + size(t, p, 1); n != api.MaxWords {
		t.Fatal(n)
	}
	c.Stack--
	ran(t, p, c, report(api.NoStack, "", 12, 1))
}

// The deepest operand stacks that a frame may have: the kinds ahead of all instructions would be far more than there is room for.
func TestDeepOperands(t *testing.T) {
	const n = api.MaxCode/2 - 3
	list := join(slices.Repeat(code(num(5)), n-1), code(made(link), call(nothing), num(6), out), slices.Repeat(code(pop), n-1), code(out, halt))
	p := world(list...)
	c := api.Config{Heap: 2, Stack: api.MaxWords, Fuel: api.MaxSteps, Collects: always(1), Moves: always(1)}
	if size(t, p, 0) != 15+n+1 {
		t.Fatal(size(t, p, 0))
	}
	ran(t, p, c, report(api.Exit, "65", len(list)+1, 1))
	huge := world(join(slices.Repeat(code(call(8)), 60000), code(halt))...)
	huge.Funcs = append(huge.Funcs, api.Func{Results: make([]int, api.MaxLocals), Code: code(halt)})
	ran(t, huge, c, report(api.NoStack, "", 0, 0))
	small := world(num(4), out, call(8), halt)
	small.Funcs = append(small.Funcs, huge.Funcs[0], huge.Funcs[8])
	small.Funcs[8].Code = join(slices.Repeat(code(call(9)), 60000), code(halt))
	ran(t, small, c, report(api.NoStack, "4", 2, 0))
}

// As many types, functions, tables and texts as may be: the last of each, and one type more for the boxes.
func TestManyOfAll(t *testing.T) {
	last, f := api.MaxTypes-1, api.MaxFuncs-1
	p := api.Prog{Types: slices.Repeat([]api.Layout{{Fields: []int{word}}}, api.MaxTypes), Strs: slices.Repeat([]string{"ab"}, api.MaxTypes)}
	p.Funcs = slices.Repeat([]api.Func{{Code: code(num(1), out, ret)}}, api.MaxFuncs)
	p.Funcs[f].Code = code(num(2), out, ret)
	p.Tables = slices.Repeat([][]int{{1}}, api.MaxTypes)
	p.Tables[last] = slices.Repeat([]int{1}, api.MaxFuncs)
	p.Tables[last][f] = f
	p.Strs[last] = "cd"
	p.Funcs[0].Code = join(
		code(made(last), dup, num(7), store(0), in(api.OpBox), dup, in(api.OpTag), out, in(api.OpUnbox, last), load(0), out),
		code(call(f), num(f), in(api.OpDyn, last), num(f-1), in(api.OpDyn, last), in(api.OpStr, last, last), num(1), in(api.OpElem), load(0), in(api.OpPut), halt))
	c := api.Config{Heap: 5, Stack: 4, Fuel: 100, Collects: always(3), Moves: always(3)}
	m := ran(t, p, c, report(api.Exit, "10237221d", 11+5+3*3+6, 3))
	if m.Moved() != 3 {
		t.Errorf("moved %d", m.Moved())
	}
}

// The stack moves again and again, and pointers to areas still name their words.
func TestManyMoves(t *testing.T) {
	const rounds = 140000
	list := join(
		code(num(rounds), set(aWord), area(1), num(77), store(0), area(1)),
		code(call(nothing), dup, dup, load(0), num(1), in(api.OpArith, api.Add), store(0), get(aWord), num(1), in(api.OpArith, api.Sub), dup, set(aWord), in(api.OpIf, 6)),
		code(load(0), out, halt))
	c := api.Config{Stack: 100, Fuel: api.MaxSteps, Moves: always(rounds + 5)}
	if m := ran(t, world(list...), c, report(api.Exit, "140077", 6+rounds*14+3, 0)); m.Moved() != rounds {
		t.Errorf("moved %d", m.Moved())
	}
	c.Moves = always(api.MaxSteps)
	if m := ran(t, world(call(nothing), in(api.OpJump, 0)), c, report(api.NoFuel, "", api.MaxSteps, 0)); m.Moved() != (api.MaxSteps+2)/3 {
		t.Errorf("moved %d", m.Moved())
	}
}
