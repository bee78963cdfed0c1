package vm_test

import (
	"slices"
	"strconv"
	"strings"
	"testing"

	"halyard/api"
	"halyard/verify"
	"halyard/vm"
)

// size: the words of a frame, as layer 11 tells.
func size(t *testing.T, p api.Prog, f int) int {
	t.Helper()
	n, e := verify.Size(p, f)
	if e != api.OK {
		t.Fatal(e)
	}
	return n
}

// P12.1: function 0's frame must fit, with its locals, areas and operands.
func TestFirstFrame(t *testing.T) {
	for _, k := range []struct {
		fn    api.Func
		words int
		steps int
	}{
		{api.Func{Code: code(halt)}, 0, 1},
		{api.Func{Code: code(num(1), halt)}, 1, 2},
		{api.Func{Code: code(num(1), num(1), pop, pop, halt)}, 2, 5},
		{api.Func{Locals: []int{word, some, ptr(link)}, Code: code(halt)}, 3, 1},
		{api.Func{Areas: []int{mixed, pair, mixed}, Code: code(halt)}, 10, 1},
		{api.Func{Locals: []int{word}, Areas: []int{mixed}, Code: code(area(0), dup, pop, halt)}, 7, 4},
		{api.Func{Locals: []int{word}, Code: code(halt, num(1), num(2), halt)}, 1, 1},
		{api.Func{Code: code(in(api.OpJump, 3), num(1), num(1), halt)}, 0, 2},
	} {
		p := world(halt)
		p.Funcs[0] = k.fn
		p.Tables = nil
		for _, c := range []api.Config{{Fuel: 9}, {Fuel: 9, Heap: api.MaxWords}} {
			c.Stack = k.words
			ran(t, p, c, report(api.Exit, "", k.steps, 0))
			if c.Stack--; c.Stack < 0 {
				continue
			}
			m := vm.New(p, c)
			if !equal(m.Report(), report(api.NoStack, "", 0, 0)) || len(m.Frames()) != 0 || m.Step() || m.Objects() != 0 || m.Moved() != 0 {
				t.Errorf("%v in %d words: %+v", k.fn, c.Stack, m.Report())
			}
			ran(t, p, c, report(api.NoStack, "", 0, 0))
		}
	}
}

// stuckSteps: of a call of deep that comes to so many frames, and to no more.
func stuckSteps(frames int) int { return 6 * frames }

// All frames' words together must fit; those of frames that are gone do not count.
func TestFramesTogether(t *testing.T) {
	p := world(num(2), call(cube), out, num(3), call(deep), out, num(3), call(cube), out, halt)
	zero, one, chain := size(t, p, 0), size(t, p, cube), size(t, p, deep)
	want := report(api.Exit, "8327", 10+2*8+deepSteps(3), 0)
	c := roomy()
	c.Stack = zero + 4*chain
	if zero+one >= c.Stack {
		t.Fatal("deep needs most")
	}
	ran(t, p, c, want)
	c.Stack--
	ran(t, p, c, report(api.NoStack, "8", 12+stuckSteps(3), 0))
	c.Stack = zero + one
	ran(t, p, c, report(api.NoStack, "8", 12+stuckSteps(one/chain), 0))
	c.Stack = zero + one - 1
	ran(t, p, c, report(api.NoStack, "", 1, 0))
}

// P12.3, MaxFrames: so many frames may be, and no more, however much room there is.
func TestMaxFrames(t *testing.T) {
	p := world(num(api.MaxFrames-2), call(deep), out, halt)
	c := api.Config{Stack: api.MaxWords, Fuel: api.MaxSteps}
	for _, moves := range [][]bool{nil, always(api.MaxFrames)} {
		c.Moves = moves
		m := ran(t, p, c, report(api.Exit, strconv.Itoa(api.MaxFrames-2), 4+deepSteps(api.MaxFrames-2), 0))
		if moved := m.Moved(); moved != min(len(moves), api.MaxFrames-1) {
			t.Errorf("moved %d", moved)
		}
		p.Funcs[0].Code[0] = num(api.MaxFrames - 1)
		m = vm.New(p, c)
		most := 0
		for m.Step() {
			if n := len(m.Frames()); n > most {
				most = n
			}
		}
		if r := m.Report(); most != api.MaxFrames || !equal(r, report(api.NoStack, "", 1+stuckSteps(api.MaxFrames-1), 0)) || m.Moved() != min(len(moves), api.MaxFrames-1) {
			t.Errorf("%d frames, %+v, moved %d", most, r, m.Moved())
		}
		p.Funcs[0].Code[0] = num(api.MaxFrames - 2)
	}
	ran(t, api.Prog{Funcs: []api.Func{{Code: code(call(0), ret)}}}, api.Config{Fuel: 5000}, report(api.NoStack, "", api.MaxFrames-1, 0))
}

// Item k of Moves is of the k-th call, from 0 on, by OpCall or by OpDyn.
func TestMoves(t *testing.T) {
	p := world(call(nothing), num(1), call(square), pop, num(2), num(1), in(api.OpDyn), pop, num(2), call(deep), pop, halt)
	const calls = 6
	for bits := range 1 << calls {
		c := roomy()
		for k := range calls {
			c.Moves = append(c.Moves, bits>>k&1 == 1)
		}
		m := vm.New(p, c)
		count, moved, depth := 0, 0, 1
		for m.Step() {
			n := len(m.Frames())
			if n > depth {
				if c.Moves[count] {
					moved++
				}
				count++
			}
			depth = n
			if m.Moved() != moved {
				t.Fatalf("%v: behind %d calls moved %d; want %d", c.Moves, count, m.Moved(), moved)
			}
		}
		if r := m.Report(); count != calls || r.End != api.Exit || m.Moved() != moved {
			t.Fatalf("%v: %d calls, %+v, moved %d", c.Moves, count, r, m.Moved())
		}
	}
	c := roomy()
	c.Moves = []bool{true, true}
	if m := ran(t, p, c, vm.New(p, roomy()).Run()); m.Moved() != 2 {
		t.Errorf("behind the list it does not move: %d", m.Moved())
	}
}

// A call that does not come to a new frame moves nothing.
func TestNoMoveWithoutFrame(t *testing.T) {
	p := world(num(1), call(cube), out, halt)
	c := api.Config{Stack: size(t, p, 0), Fuel: 100, Moves: always(5)}
	if m := ran(t, p, c, report(api.NoStack, "", 1, 0)); m.Moved() != 0 {
		t.Errorf("moved %d", m.Moved())
	}
	p = world(num(1), num(7), in(api.OpDyn), out, halt)
	c.Stack = size(t, p, 0)
	if m := ran(t, p, c, trapped(api.TrapRange, "", 3, 0)); m.Moved() != 0 {
		t.Errorf("moved %d", m.Moved())
	}
}

// Pointers to areas name the same words behind moves: in locals, among operands, handed to functions and to those that these call; and what is stored by one is seen by others.
func TestPointersBehindMoves(t *testing.T) {
	add := func(n int) []api.Instr {
		return code(dup, load(0), num(n), in(api.OpArith, api.Add), store(0))
	}
	near := stays(ptr(link))
	inner := api.Func{Params: 2, Locals: []int{near, stays(ptr(cell))}, Areas: []int{cell}, Code: join(
		code(get(0)), add(100), code(get(1)), add(1000), code(call(nothing), area(0), num(3), store(0), area(0), call(10), get(1)), add(2000), code(ret))}
	outer := api.Func{Params: 1, Locals: []int{near, near}, Areas: []int{link, cell}, Code: join(
		code(area(0), set(1), get(1), num(5), store(0), get(0)), add(10), code(get(0), in(api.OpAddr, 0, cell), get(1), area(1), call(8)),
		code(area(1), load(0), out, num(32), in(api.OpPut), get(1), load(0), out, num(32), in(api.OpPut)), add(7), code(call(nothing), get(1), area(0), same, out, get(0), get(1), same, out, ret))}
	show := api.Func{Params: 1, Locals: []int{stays(ptr(cell))}, Code: code(call(nothing), get(0), load(0), out, num(32), in(api.OpPut), ret)}
	p := world(join(
		code(area(0), num(1), store(0), area(0), set(nearLink), area(0), area(1), num(4), store(0)),
		code(get(nearLink), call(9), load(0), out, num(32), in(api.OpPut), area(1), load(0), out, get(nearLink), area(0), same, out, halt))...)
	p.Funcs = append(p.Funcs, inner, outer, show)
	c := roomy()
	want := vm.New(p, c).Run()
	if string(want.Out) != "3 3000 105 1018 41" || want.End != api.Exit {
		t.Fatalf("%q, %+v", want.Out, want)
	}
	const calls = 6
	for bits := range 1 << calls {
		c.Moves = nil
		for k := range calls {
			c.Moves = append(c.Moves, bits>>k&1 == 1)
		}
		ran(t, p, c, want)
	}
	wantRun(t, p, want)
}

// Numbers stay as they are when the stack moves, whatever addresses they look like: in locals, areas and objects and among operands.
func TestNumbersBehindMoves(t *testing.T) {
	for _, n := range []int{0, 1, 100, 65530, 1 << 17, 196600, 1 << 20, 1 << 40, -70000} {
		var list []api.Instr
		var want strings.Builder
		for i := range 300 {
			list = append(list, num(n+i))
		}
		list = append(list, num(n+3), set(aWord), num(n+20), set(bWord), area(0), num(n+10), store(0), area(2), num(n+14), store(3), made(cell), dup, num(n+9), store(0), in(api.OpBox), set(anAny))
		list = append(list, call(nothing), num(n+2), call(cube), pop, call(nothing))
		list = append(list, get(aWord), out, get(bWord), out, area(0), load(0), out, area(2), load(3), out, get(anAny), in(api.OpUnbox, cell), load(0), out)
		for _, i := range []int{3, 20, 10, 14, 9} {
			want.WriteString(strconv.Itoa(n + i))
		}
		for i := range 300 {
			list = append(list, out)
			want.WriteString(strconv.Itoa(n + 299 - i))
		}
		wantRun(t, world(append(list, halt)...), report(api.Exit, want.String(), len(list)+1+1+8+1, 2))
	}
}

// Objects that only areas of frames below come to are there behind moves, and are found by collections then.
func TestAreasBehindMovesAndCollections(t *testing.T) {
	p := world(join(
		code(area(0), num(8), store(0), area(0), made(link), store(1), area(0), load(1), num(9), store(0)),
		code(area(2), num(2), in(api.OpMake, link), store(0), area(2), load(0), num(1), in(api.OpElem), num(5), store(0)),
		code(area(0), call(8), area(0), load(1), load(0), out, area(2), load(0), num(1), in(api.OpElem), load(0), out, halt))...)
	p.Funcs = append(p.Funcs, api.Func{Params: 1, Locals: []int{stays(ptr(link))}, Areas: []int{holder}, Code: code(
		area(0), made(cell), in(api.OpBox), store(0), call(nothing), made(pair), pop, get(0), load(1), load(0), out, get(0), made(link), store(1), get(0), load(1), num(6), store(0), area(0), load(0), in(api.OpTag), out, ret)})
	wantRun(t, p, report(api.Exit, "9065", 34+23, 6))
	c := roomy()
	c.Collects, c.Moves = always(10), always(10)
	m := vm.New(p, c)
	if m.Run(); m.Objects() != 5 || m.Moved() != 2 {
		t.Errorf("%d objects, moved %d", m.Objects(), m.Moved())
	}
}

// Frames: through calls and returns of many functions.
func TestFrames(t *testing.T) {
	p := world(num(2), call(deep), num(0), in(api.OpDyn, 0), call(8), halt)
	p.Funcs = append(p.Funcs, api.Func{Params: 1, Locals: []int{word}, Code: code(call(nothing), ret)})
	m := vm.New(p, roomy())
	var seen [][]int
	for more := true; more; more = m.Step() {
		if f := m.Frames(); len(seen) == 0 || !slices.Equal(seen[len(seen)-1], f) {
			seen = append(seen, f)
		}
	}
	want := [][]int{{0}, {0, deep}, {0, deep, deep}, {0, deep, deep, deep}, {0, deep, deep}, {0, deep}, {0}, {0, square}, {0}, {0, 8}, {0, 8, nothing}, {0, 8}, {0}}
	if !slices.EqualFunc(seen, want, slices.Equal[[]int]) || len(m.Frames()) != 0 {
		t.Errorf("%v", seen)
	}
}
