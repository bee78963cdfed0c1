package vm_test

import (
	"math"
	"math/big"
	"slices"
	"strconv"
	"strings"
	"testing"

	"halyard/api"
	"halyard/vm"
)

// numbers at their ends, and some between.
func ends() []int {
	return []int{0, 1, -1, 2, -2, 3, -3, 7, -7, 255, 256, 1 << 31, -1 << 31, 1 << 32, 1<<32 + 5, 3037000500, math.MaxInt - 1, math.MaxInt, math.MinInt, math.MinInt + 1}
}

// wrapped: a whole number as a word.
func wrapped(n *big.Int) int {
	low := new(big.Int).And(n, new(big.Int).SetUint64(math.MaxUint64))
	return int(low.Uint64())
}

// reckoned: what OpArith does, by big numbers.
func reckoned(op, x, y int) int {
	a, b, c := big.NewInt(int64(x)), big.NewInt(int64(y)), new(big.Int)
	truth := func(holds bool) int {
		if holds {
			return 1
		}
		return 0
	}
	switch op {
	case api.Add:
		c.Add(a, b)
	case api.Sub:
		c.Sub(a, b)
	case api.Mul:
		c.Mul(a, b)
	case api.Div:
		c.Quo(a, b)
	case api.Mod:
		c.Rem(a, b)
	case api.And:
		c.And(a, b)
	case api.Or:
		c.Or(a, b)
	case api.Xor:
		c.Xor(a, b)
	case api.Eq:
		return truth(a.Cmp(b) == 0)
	case api.Lt:
		return truth(a.Cmp(b) < 0)
	}
	return wrapped(c)
}

func TestArith(t *testing.T) {
	for op := api.Add; op <= api.Lt; op++ {
		for _, x := range ends() {
			for _, y := range ends() {
				list := code(num(x), num(y), in(api.OpArith, op), out, halt)
				if y == 0 && (op == api.Div || op == api.Mod) {
					ran(t, world(list...), roomy(), trapped(api.TrapZero, "", 3, 0))
				} else {
					ran(t, world(list...), roomy(), report(api.Exit, strconv.Itoa(reckoned(op, x, y)), 5, 0))
				}
			}
		}
	}
}

// Which is x and which is y, with what is below them on the stack.
func TestArithOrder(t *testing.T) {
	arith := func(op int) api.Instr { return in(api.OpArith, op) }
	wantOut(t, "-3-12", 0, num(2), num(7), num(-20), num(6), arith(api.Div), out, num(-13), num(12), arith(api.Mod), out, num(5), arith(api.Sub), out, pop)
	wantOut(t, "6415", 0, num(14), num(7), arith(api.And), out, num(4), num(0), arith(api.Or), out, num(1), num(0), arith(api.Xor), out, num(2), num(3), arith(api.Add), out)
	wantOut(t, "1001", 0, num(2), num(3), arith(api.Lt), out, num(3), num(2), arith(api.Lt), out, num(3), num(3), arith(api.Lt), out, num(3), num(3), arith(api.Eq), out)
}

func TestNumbers(t *testing.T) {
	for _, n := range ends() {
		wantOut(t, strconv.Itoa(n), 0, num(n), out)
		wantOut(t, string([]byte{byte(n)}), 0, num(n), in(api.OpPut))
	}
	for n := range 256 {
		wantOut(t, string([]byte{byte(n)}), 0, num(n-512), in(api.OpPut))
	}
}

func TestPopDup(t *testing.T) {
	wantOut(t, "775", 0, num(5), num(7), dup, out, out, num(9), pop, out)
	wantOut(t, "134", 1, made(link), dup, num(4), store(0), dup, dup, same, out, num(3), out, load(0), out)
	wantOut(t, "8", 0, area(0), dup, num(8), store(0), load(0), out)
}

// Each local is its own, zero at first, and keeps what it is given.
func TestLocals(t *testing.T) {
	wantOut(t, "00", 0, get(aWord), out, get(bWord), out)
	wantOut(t, "56", 0, num(5), set(aWord), num(6), set(bWord), get(aWord), out, get(bWord), out)
	for i, kind := range locals() {
		if kind != word {
			wantOut(t, "1", 0, get(i), in(api.OpNil, kind), same, out)
		}
	}
	wantOut(t, "0001", 2, made(link), dup, set(aLink), set(nearLink), made(link), set(aLink),
		get(aLink), get(nearLink), same, out, get(nearLink), in(api.OpNil, ptr(link)), same, out,
		get(aLink), set(nearLink), get(anAny), in(api.OpTag), num(1), in(api.OpArith, api.Add), out, get(nearLink), get(aLink), same, out)
}

func TestJumps(t *testing.T) {
	p := world(in(api.OpJump, 3), num(1), out, num(2), out, halt)
	wantRun(t, p, report(api.Exit, "2", 4, 0))
	for _, n := range ends() {
		p := world(num(n), in(api.OpIf, 4), num(5), in(api.OpJump, 5), num(6), out, halt)
		if n == 0 {
			wantRun(t, p, report(api.Exit, "5", 6, 0))
		} else {
			wantRun(t, p, report(api.Exit, "6", 5, 0))
		}
	}
	back := world(num(3), set(aWord), get(aWord), out, get(aWord), num(1), in(api.OpArith, api.Sub), dup, set(aWord), in(api.OpIf, 2), halt)
	wantRun(t, back, report(api.Exit, "321", 2+3*8+1, 0))
}

// OpNew, OpMake, OpStr: each makes an object of its own, all zero but for a text's bytes.
func TestObjects(t *testing.T) {
	list := code(made(mixed), dup, load(0), in(api.OpNil, arr(link)), same, out, dup, load(1), in(api.OpNil, ptr(cell)), same, out,
		dup, load(2), in(api.OpTag), out, load(3), out)
	wantOut(t, "11-10", 1, list...)
	wantOut(t, "0", 2, made(link), made(link), same, out)
	wantOut(t, "0", 2, num(0), in(api.OpMake, cell), num(0), in(api.OpMake, cell), same, out)
	wantOut(t, "0", 2, in(api.OpStr, 0, cell), in(api.OpStr, 0, cell), same, out)
	wantOut(t, "0", 2, in(api.OpStr, 1, cell), in(api.OpStr, 1, cell), same, out)
	for i, b := range []int{'h', 'i', 0, 255} {
		wantOut(t, "4"+strconv.Itoa(b), 1, in(api.OpStr, 1, cell), dup, in(api.OpLen), out, num(i), in(api.OpElem), load(0), out)
	}
	wantOut(t, "0", 1, in(api.OpStr, 0, cell), in(api.OpLen), out)
	for n := range 5 {
		wantOut(t, strconv.Itoa(n), 1, num(n), in(api.OpMake, link), in(api.OpLen), out)
	}
}

// A text's array is changed for itself alone: the text stays as it is.
func TestTextIsNew(t *testing.T) {
	change := code(in(api.OpStr, 1, cell), num(1), in(api.OpElem), num(1000), store(0))
	wantOut(t, "105", 2, join(change, code(in(api.OpStr, 1, cell), num(1), in(api.OpElem), load(0), out))...)
	wantOut(t, "1000", 1, in(api.OpStr, 1, cell), set(cells), get(cells), num(1), in(api.OpElem), num(1000), store(0), get(cells), num(1), in(api.OpElem), load(0), out)
}

// Elements lie apart, each with all its fields.
func TestElements(t *testing.T) {
	list := code(num(3), in(api.OpMake, link), set(links))
	for i := range 3 {
		list = append(list, get(links), num(i), in(api.OpElem), num(10+i), store(0))
		list = append(list, get(links), num(i), in(api.OpElem), get(links), num(2-i), in(api.OpElem), store(1))
	}
	for i := range 3 {
		list = append(list, get(links), num(i), in(api.OpElem), dup, load(0), out, load(1), load(0), out)
	}
	wantOut(t, "101211111210", 1, list...)
	at := func(i int) []api.Instr { return code(get(links), num(i), in(api.OpElem)) }
	wantOut(t, "10", 1, join(list[:3], at(1), at(1), code(same, out), at(1), at(2), code(same, out))...)
	wantOut(t, "1", 1, num(2), in(api.OpMake, link), dup, set(links), set(nearLinks), get(links), num(1), in(api.OpElem), get(nearLinks), num(1), in(api.OpElem), same, out)
}

// OpAddr: the field's word, of an object, an element and an area.
func TestAddr(t *testing.T) {
	second := in(api.OpAddr, 1, cell)
	wantOut(t, "56", 1, made(pair), dup, num(5), store(0), dup, second, num(6), store(0), dup, load(0), out, load(1), out)
	wantOut(t, "6", 1, made(pair), dup, num(6), store(1), second, load(0), out)
	wantOut(t, "1", 1, made(cell), dup, in(api.OpAddr, 0, cell), same, out)
	wantOut(t, "9", 0, area(2), in(api.OpAddr, 3, cell), num(9), store(0), area(2), load(3), out)
	wantOut(t, "1", 0, area(2), in(api.OpAddr, 3, cell), area(2), in(api.OpAddr, 3, cell), same, out)
	wantOut(t, "0", 0, area(2), in(api.OpAddr, 3, cell), area(1), same, out)
	wantOut(t, "4", 1, made(link), dup, num(4), store(0), set(aLink), area(0), in(api.OpAddr, 1, toLink), get(aLink), store(0), area(0), load(1), load(0), out)
	list := code(num(3), in(api.OpMake, link), set(links))
	field := func(i, a, b int) []api.Instr { return code(get(links), num(i), in(api.OpElem), in(api.OpAddr, a, b)) }
	list = join(list, field(1, 0, cell), code(num(21), store(0)), field(1, 1, toLink), code(get(links), num(2), in(api.OpElem), store(0)), field(2, 0, cell), code(num(22), store(0)))
	list = join(list, code(get(links), num(1), in(api.OpElem), dup, load(0), out, load(1), load(0), out))
	list = join(list, field(1, 0, cell), field(1, 0, cell), code(same, out), field(1, 0, cell), field(2, 0, cell), code(same, out))
	wantOut(t, "212210", 1, list...)
}

// OpArea: each is its own, zero when its frame comes, and lies apart from the locals.
func TestAreas(t *testing.T) {
	wantOut(t, "00-10", 0, area(0), load(0), out, area(1), load(0), out, area(2), load(2), in(api.OpTag), out, area(2), load(3), out)
	wantOut(t, "1", 0, area(2), load(0), in(api.OpNil, arr(link)), same, out)
	wantOut(t, "678", 0, area(0), num(6), store(0), area(1), num(7), store(0), area(2), num(8), store(3), area(0), load(0), out, area(1), load(0), out, area(2), load(3), out)
	wantOut(t, "10", 0, area(0), area(0), same, out, area(0), in(api.OpAddr, 0, cell), area(1), same, out)
	wantOut(t, "506", 0, num(5), set(aWord), num(6), set(bWord), area(0), num(1), store(0), get(aWord), out, get(aWord), num(5), in(api.OpArith, api.Sub), out, get(bWord), out)
	wantOut(t, "7", 1, area(0), made(link), store(1), area(0), load(1), num(7), store(0), area(0), load(1), load(0), out)
	wantOut(t, "10", 1, area(0), set(nearLink), area(0), get(nearLink), same, out, made(link), get(nearLink), same, out)
}

// Each frame has its own areas and locals, which are zero again when the function is called again.
func TestNewFrames(t *testing.T) {
	p := world(call(8), call(8), num(5), call(9), call(8), halt)
	body := code(get(0), out, area(0), load(0), out, area(0), load(1), in(api.OpTag), out,
		num(3), set(0), area(0), num(4), store(0), area(0), made(cell), in(api.OpBox), store(1), ret)
	p.Types = append(p.Types, api.Layout{Fields: []int{word, some}})
	p.Funcs = append(p.Funcs, api.Func{Locals: []int{word}, Areas: []int{len(p.Types) - 1}, Code: body},
		api.Func{Params: 1, Locals: []int{word, word}, Areas: []int{pair}, Code: code(call(8), get(1), out, get(0), out, area(0), num(9), store(0), area(0), num(9), store(1), num(9), set(1), ret)})
	wantRun(t, p, report(api.Exit, "00-100-100-10500-1", 6+4*len(body)+14, 8))
}

// OpLoad and OpStore: the field alone.
func TestFields(t *testing.T) {
	list := code(made(mixed), dup, num(1), in(api.OpMake, link), store(0), dup, made(cell), store(1), dup, made(pair), in(api.OpBox), store(2), dup, num(77), store(3))
	look := code(dup, load(0), in(api.OpLen), out, dup, load(1), load(0), out, dup, load(2), in(api.OpTag), out, load(3), out)
	wantOut(t, "10677", 5, join(list, look)...)
	wantOut(t, "1110-177", 5, join(list, code(dup, in(api.OpNil, some), store(2), dup, in(api.OpNil, ptr(cell)), store(1),
		dup, load(0), in(api.OpLen), out, dup, load(1), in(api.OpNil, ptr(cell)), same, out, dup, dup, same, out, num(0), out, dup, load(2), in(api.OpTag), out, load(3), out))...)
}

// OpBox, OpTag, OpUnbox: the type is that of the Ptr, nil or not, and whatever it points into.
func TestBoxes(t *testing.T) {
	for ty := range types() {
		for _, put := range []api.Instr{made(ty), in(api.OpNil, ptr(ty))} {
			allocs := 1
			if put.Op == api.OpNew {
				allocs = 2
			}
			wantOut(t, strconv.Itoa(ty), allocs, put, in(api.OpBox), in(api.OpTag), out)
			for other := range types() {
				list := code(put, in(api.OpBox), in(api.OpUnbox, other))
				if other == ty {
					wantOut(t, "", allocs, append(list, pop)...)
				} else {
					wantTrap(t, api.TrapKind, allocs, list...)
				}
			}
		}
		wantTrap(t, api.TrapKind, 0, in(api.OpNil, some), in(api.OpUnbox, ty))
	}
	wantOut(t, "-1", 0, in(api.OpNil, some), in(api.OpTag), out)
	wantOut(t, "5", 2, made(link), dup, num(5), store(0), in(api.OpBox), in(api.OpUnbox, link), load(0), out)
	wantOut(t, "1", 1, in(api.OpNil, ptr(link)), in(api.OpBox), in(api.OpUnbox, link), in(api.OpNil, ptr(link)), same, out)
	wantOut(t, "08", 2, made(pair), in(api.OpAddr, 1, cell), dup, num(8), store(0), in(api.OpBox), dup, in(api.OpTag), out, in(api.OpUnbox, cell), load(0), out)
	wantOut(t, "2", 2, made(link), in(api.OpAddr, 1, toLink), in(api.OpBox), in(api.OpTag), out)
}

// OpSame of Any: by type and Ptr, whatever box they are in.
func TestSameAny(t *testing.T) {
	box := in(api.OpBox)
	null := func(ty int) api.Instr { return in(api.OpNil, ptr(ty)) }
	none := in(api.OpNil, some)
	wantOut(t, "1", 0, none, none, same, out)
	wantOut(t, "1", 2, made(link), box, dup, same, out)
	wantOut(t, "1", 3, made(link), set(aLink), get(aLink), box, get(aLink), box, same, out)
	wantOut(t, "0", 4, made(link), box, made(link), box, same, out)
	wantOut(t, "1", 2, null(link), box, null(link), box, same, out)
	wantOut(t, "0", 2, null(link), box, null(cell), box, same, out)
	wantOut(t, "0", 1, null(cell), box, none, same, out)
	wantOut(t, "0", 1, none, null(cell), box, same, out)
	wantOut(t, "0", 2, made(cell), box, none, same, out)
	wantOut(t, "0", 3, made(cell), box, null(cell), box, same, out)
	one := len(types())
	p := world(made(cell), dup, in(api.OpAddr, 0, one), box, set(anAny), box, get(anAny), same, out, halt)
	p.Types = append(p.Types, api.Layout{Fields: []int{word}})
	wantRun(t, p, report(api.Exit, "0", 10, 3))
}

// OpSame of pointers: whichever of them is near, and of which object they are.
func TestSame(t *testing.T) {
	for _, kind := range []int{ptr(link), arr(link), stays(ptr(link)), stays(arr(link)), some} {
		wantOut(t, "1", 0, in(api.OpNil, kind), dup, same, out)
	}
	wantOut(t, "1", 0, in(api.OpNil, ptr(link)), in(api.OpNil, stays(ptr(link))), same, out)
	wantOut(t, "0", 0, in(api.OpNil, ptr(link)), area(0), same, out)
	wantOut(t, "0", 1, area(0), made(link), same, out)
	wantOut(t, "11", 1, made(link), dup, set(nearLink), dup, get(nearLink), same, out, get(nearLink), same, out)
	wantOut(t, "01", 1, num(0), in(api.OpMake, link), dup, set(links), in(api.OpNil, arr(link)), same, out, get(links), get(links), same, out)
}

// OpLen: of nil 0, of others what they were made with.
func TestLen(t *testing.T) {
	for _, ty := range []int{cell, link, mixed} {
		wantOut(t, "0", 0, in(api.OpNil, arr(ty)), in(api.OpLen), out)
		wantOut(t, "0", 0, in(api.OpNil, stays(arr(ty))), in(api.OpLen), out)
		wantOut(t, "7", 1, num(7), in(api.OpMake, ty), in(api.OpLen), out)
	}
}

// OpCall: the values become the first locals in their order, and the results stand on the caller's stack in theirs, upon what was there.
func TestCalls(t *testing.T) {
	wantRun(t, world(num(1), num(7), call(square), out, out, halt), report(api.Exit, "491", 6+4, 0))
	wantRun(t, world(num(3), call(cube), out, halt), report(api.Exit, "27", 4+8, 0))
	wantRun(t, world(num(8), num(5), in(api.OpNil, ptr(pair)), in(api.OpBox), made(link), dup, num(9), store(0), call(turn), out, in(api.OpTag), out, load(0), out, out, halt),
		report(api.Exit, "5698", 9+7+4, 2))
	wantRun(t, world(area(0), num(31), store(0), area(0), call(first), out, made(link), call(first), out, halt), report(api.Exit, "310", 10+2*3, 1))
	wantRun(t, world(num(6), call(nothing), out, halt), report(api.Exit, "6", 5, 0))
	wantRun(t, world(num(20), call(deep), out, halt), report(api.Exit, "20", 4+deepSteps(20), 0))
	wantRun(t, world(in(api.OpNil, ptr(link)), call(grow), call(grow), call(grow), dup, num(4), store(0), dup, load(1), load(1), load(1), in(api.OpNil, ptr(link)), same, out, load(0), out, halt),
		report(api.Exit, "14", 17+3*5, 3))
}

// OpDyn: each item of each table.
func TestDyn(t *testing.T) {
	dyn := func(table int) api.Instr { return in(api.OpDyn, table) }
	wantRun(t, world(num(3), num(0), dyn(0), out, halt), report(api.Exit, "9", 5+4, 0))
	wantRun(t, world(num(3), num(1), dyn(0), out, halt), report(api.Exit, "27", 5+8, 0))
	wantRun(t, world(num(3), num(0), dyn(2), out, halt), report(api.Exit, "3", 5+deepSteps(3), 0))
	wantRun(t, world(num(3), num(2), dyn(2), out, halt), report(api.Exit, "9", 5+4, 0))
	wantRun(t, world(num(0), dyn(1), halt), report(api.Exit, "", 4, 0))
	for _, i := range []int{-1, 2, 3, math.MaxInt, math.MinInt, 1 << 32, -1 << 32} {
		wantTrap(t, api.TrapRange, 0, num(3), num(i), dyn(0))
		wantTrap(t, api.TrapRange, 0, num(i), dyn(1))
	}
	wantTrap(t, api.TrapRange, 0, num(1), num(3), dyn(2))
}

// Function 0 may be called too. Nothing tells it that it is not the first time, so it calls itself till something is wanting.
func TestFunctionZeroAgain(t *testing.T) {
	p := world(num(7), out, call(0), ret)
	wantRun(t, p, report(api.NoStack, strings.Repeat("7", 4000/(8+7+1)), 3*(4000/16)-1, 0))
	p.Funcs = append(p.Funcs, api.Func{Code: code(num(0), in(api.OpDyn, 1), ret)})
	p.Tables[1] = []int{0, 8}
	p.Funcs[0] = api.Func{Code: code(num(5), out, num(1), in(api.OpDyn, 1), ret)}
	c := roomy()
	c.Fuel = 12
	m := ran(t, p, c, report(api.NoFuel, "55", 12, 0))
	if m.Moved() != 0 {
		t.Errorf("moved %d", m.Moved())
	}
	m = vm.New(p, c)
	for range 12 {
		m.Step()
	}
	if got := m.Frames(); !slices.Equal(got, []int{0, 8, 0, 8, 0}) {
		t.Errorf("frames %v", got)
	}
}

// OpHalt and OpRet of the first frame end the run with Exit, whatever is on the stack.
func TestExit(t *testing.T) {
	wantRun(t, world(halt), report(api.Exit, "", 1, 0))
	wantRun(t, world(ret), report(api.Exit, "", 1, 0))
	wantRun(t, world(num(4), made(link), halt), report(api.Exit, "", 3, 1))
	p := world(num(1), out, call(8), num(2), out, halt)
	p.Funcs = append(p.Funcs, api.Func{Code: code(num(3), out, call(9), ret)}, api.Func{Code: code(num(4), out, halt)})
	wantRun(t, p, report(api.Exit, "134", 9, 0))
	p.Funcs[9].Code[2] = ret
	wantRun(t, p, report(api.Exit, "1342", 13, 0))
	p.Funcs[0].Code[5] = ret
	wantRun(t, p, report(api.Exit, "1342", 13, 0))
}

// OpTrap: any number A, and any Word as the Value; in any frame.
func TestTrap(t *testing.T) {
	p := world(num(1), out, call(8), halt)
	for _, n := range ends() {
		for _, a := range []int{0, 1, api.TrapPanic, 9, -1, math.MaxInt, math.MinInt} {
			r := trapped(a, "", 2, 0)
			r.Value = n
			wantRun(t, world(num(n), in(api.OpTrap, a)), r)
			p.Funcs = append(p.Funcs[:8:8], api.Func{Code: code(num(5), num(n), in(api.OpTrap, a))})
			r.Steps, r.Out = 6, []byte("1")
			wantRun(t, p, r)
		}
	}
}
