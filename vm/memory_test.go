package vm_test

import (
	"slices"
	"testing"

	"halyard/api"
	"halyard/vm"
)

// once: of the k-th allocation alone.
func once(k int) []bool { return append(make([]bool, k), true) }

// allocs: how many objects the code's run makes.
func allocs(t *testing.T, p api.Prog) int {
	t.Helper()
	r := vm.New(p, roomy()).Run()
	if r.End != api.Exit {
		t.Fatalf("%+v; %s", r, told(p))
	}
	return r.Allocs
}

// wantStay: of all objects that the code makes so many are there behind a collection at its end.
func wantStay(t *testing.T, want int, list ...api.Instr) {
	t.Helper()
	p := world(append(list, made(cell), halt)...)
	n := allocs(t, p)
	for _, all := range [][]bool{nil, always(n)} {
		c := roomy()
		c.Collects, c.Moves = append(all, once(n - 1)[len(all):]...), all
		m := vm.New(p, c)
		if r := m.Run(); r.End != api.Exit || r.Allocs != n || m.Objects() != want+1 {
			t.Fatalf("%+v, %d objects; want %d beside the last one; %s", r, m.Objects(), want, told(p))
		}
	}
	m := vm.New(p, roomy())
	if m.Run(); m.Objects() != n {
		t.Fatalf("without a collection %d objects of %d", m.Objects(), n)
	}
}

// What a collection finds: locals, areas and operands, whatever their kinds.
func TestRoots(t *testing.T) {
	box, take := in(api.OpBox), in(api.OpNil, ptr(link))
	wantStay(t, 0, made(link), pop)
	wantStay(t, 1, made(link))
	wantStay(t, 1, made(link), dup, pop)
	wantStay(t, 3, made(link), made(link), made(link))
	wantStay(t, 2, made(link), made(link), made(link), pop)
	wantStay(t, 1, made(link), set(aLink))
	wantStay(t, 1, made(link), set(nearLink))
	wantStay(t, 1, made(link), set(aLink), made(link), set(aLink))
	wantStay(t, 2, made(link), set(aLink), made(link), set(nearLink))
	wantStay(t, 0, made(link), set(aLink), take, set(aLink))
	wantStay(t, 1, num(3), in(api.OpMake, link), set(links))
	wantStay(t, 1, num(3), in(api.OpMake, link), set(nearLinks))
	wantStay(t, 1, num(0), in(api.OpMake, link), set(nearLinks))
	wantStay(t, 1, in(api.OpStr, 1, cell), set(cells))
	wantStay(t, 1, in(api.OpStr, 0, cell))
	wantStay(t, 2, made(link), box, set(anAny))
	wantStay(t, 1, take, box, set(anAny))
	wantStay(t, 2, made(link), box)
	wantStay(t, 1, made(link), box, in(api.OpUnbox, link))
	wantStay(t, 0, made(link), box, in(api.OpTag))
	wantStay(t, 1, area(0), made(link), store(1))
	wantStay(t, 0, area(0), made(link), store(1), area(0), take, store(1))
	wantStay(t, 1, area(2), num(2), in(api.OpMake, link), store(0))
	wantStay(t, 2, area(2), made(cell), store(1), area(2), num(2), in(api.OpMake, link), store(0))
	wantStay(t, 4, area(2), made(cell), store(1), area(2), made(pair), box, store(2), area(2), num(2), in(api.OpMake, link), store(0))
	wantStay(t, 1, area(0), made(link), store(1), area(0), load(1))
}

// What is come to by way of others, from a word in the middle of an object too.
func TestReached(t *testing.T) {
	chain := code(in(api.OpNil, ptr(link)), call(grow), call(grow), call(grow), call(grow))
	wantStay(t, 4, chain...)
	wantStay(t, 3, append(chain, load(1))...)
	wantStay(t, 2, append(chain, load(1), load(1))...)
	wantStay(t, 3, append(chain, load(1), set(aLink))...)
	wantStay(t, 0, append(chain, load(0), set(aWord))...)
	wantStay(t, 4, append(chain, in(api.OpAddr, 0, cell))...)
	wantStay(t, 4, append(chain, in(api.OpAddr, 1, toLink))...)
	wantStay(t, 5, append(chain, in(api.OpAddr, 1, toLink), in(api.OpBox), set(anAny))...)
	wantStay(t, 3, append(chain, in(api.OpAddr, 1, toLink), load(0))...)
	ring := code(made(link), set(aLink), get(aLink), made(link), store(1), get(aLink), load(1), get(aLink), store(1))
	wantStay(t, 2, ring...)
	wantStay(t, 0, append(ring, in(api.OpNil, ptr(link)), set(aLink))...)
	wantStay(t, 2, append(ring, get(aLink), load(1), set(aLink))...)
	all := code(num(3), in(api.OpMake, link), set(links), get(links), num(2), in(api.OpElem), made(link), store(1), get(links), num(0), in(api.OpElem), made(link), store(1))
	wantStay(t, 3, all...)
	wantStay(t, 3, append(all, get(links), num(1), in(api.OpElem), in(api.OpNil, arr(link)), set(links))...)
	wantStay(t, 1, append(all, get(links), num(2), in(api.OpElem), load(1), in(api.OpNil, arr(link)), set(links))...)
	wantStay(t, 3, append(all, get(links), num(1), in(api.OpElem), in(api.OpAddr, 0, cell), in(api.OpNil, arr(link)), set(links))...)
}

// Numbers keep nothing, whatever words they look like.
func TestNumbersAreNoRoots(t *testing.T) {
	list := code(made(link), pop, made(link), dup, num(1), store(0), set(aLink))
	for n := range 12 {
		list = append(list, num(n), num(n), set(aWord))
	}
	list = join(list, code(num(1), set(aWord), num(2), set(bWord), area(0), num(1), store(0), area(2), num(2), store(3), get(aLink), num(2), store(0)))
	wantStay(t, 1, list...)
	text := code(made(link), pop, num(2), in(api.OpMake, cell), set(cells), get(cells), num(0), in(api.OpElem), num(1), store(0), get(cells), num(1), in(api.OpElem), num(2), store(0))
	wantStay(t, 1, text...)
}

// The frames below are looked at too: locals, areas and operands; and those that are gone are not.
func TestRootsOfFrames(t *testing.T) {
	below := code(made(link), set(aLink), area(0), made(link), store(1), made(link), num(1))
	inside := code(made(link), set(0), area(0), made(link), store(1), made(link))
	p := world(join(below, code(call(8), made(cell), halt))...)
	p.Funcs = append(p.Funcs, api.Func{Locals: []int{ptr(link)}, Areas: []int{link}, Code: join(inside, code(made(cell), pop, pop, ret))})
	for _, move := range [][]bool{nil, {true}} {
		for k, want := range []int{1, 2, 3, 4, 5, 6, 7, 4} {
			c := roomy()
			c.Collects, c.Moves = once(k), move
			m := vm.New(p, c)
			for m.Report().Allocs <= k && m.Step() {
			}
			if m.Objects() != want {
				t.Errorf("behind allocation %d: %d objects; want %d", k, m.Objects(), want)
			}
		}
	}
}

// What is handed over is kept by who has it: arguments by the new frame, results by the caller.
func TestHandedOver(t *testing.T) {
	p := world(made(link), call(8), made(cell), halt)
	p.Funcs = append(p.Funcs, api.Func{Params: 1, Locals: []int{ptr(link)}, Results: []int{ptr(link)}, Code: code(made(cell), pop, get(0), in(api.OpNil, ptr(link)), set(0), made(cell), pop, ret)})
	for k, want := range []int{1, 2, 2, 2} {
		c := roomy()
		c.Collects = always(k + 1)
		m := vm.New(p, c)
		for m.Report().Allocs <= k && m.Step() {
		}
		if m.Objects() != want {
			t.Errorf("behind allocation %d: %d objects; want %d", k, m.Objects(), want)
		}
	}
}

// Item k of Collects is of the k-th object, from 0 on, whichever instruction makes it; behind the list nothing is collected.
func TestCollects(t *testing.T) {
	list := code(made(link), pop, num(2), in(api.OpMake, cell), pop, in(api.OpStr, 1, cell), pop, in(api.OpNil, ptr(link)), in(api.OpBox), pop, made(pair), pop)
	for bits := range 1 << 6 {
		c := roomy()
		want, counts := 0, []int(nil)
		for k := range 5 {
			c.Collects = append(c.Collects, bits>>k&1 == 1)
			if bits>>k&1 == 1 {
				want = 0
			}
			want++
			counts = append(counts, want)
		}
		if bits>>5 == 1 {
			c.Collects = c.Collects[:3]
			counts[3], counts[4] = counts[2]+1, counts[2]+2
		}
		m := vm.New(world(append(list, halt)...), c)
		for k := 0; m.Step(); {
			if n := m.Report().Allocs; n > k {
				k = n
				if m.Objects() != counts[k-1] {
					t.Fatalf("%v: behind allocation %d: %d objects; want %v", c.Collects, k-1, m.Objects(), counts)
				}
			}
		}
		if r := m.Report(); r.End != api.Exit || r.Allocs != 5 || m.Objects() != counts[4] {
			t.Fatalf("%v: %+v, %d objects", c.Collects, r, m.Objects())
		}
	}
}

// What OpBox takes is there till the box is, and no longer than the box.
func TestBoxKeepsItsOwn(t *testing.T) {
	c := roomy()
	c.Collects = []bool{false, true, true}
	ran(t, world(made(link), in(api.OpBox), made(cell), pop, in(api.OpUnbox, link), num(6), store(0), halt), c, report(api.Exit, "", 8, 3))
	m := ran(t, world(made(link), dup, num(9), store(0), in(api.OpBox), in(api.OpUnbox, link), load(0), out, halt), c, report(api.Exit, "9", 9, 2))
	if m.Objects() != 2 {
		t.Errorf("%d objects", m.Objects())
	}
	c.Heap = 4
	c.Collects = nil
	ran(t, world(made(pair), pop, made(link), dup, num(9), store(0), in(api.OpBox), in(api.OpUnbox, link), load(0), out, halt), c, report(api.Exit, "9", 11, 3))
	m = ran(t, world(made(pair), made(link), in(api.OpBox), halt), c, report(api.NoMemory, "", 2, 2))
	if m.Objects() != 2 {
		t.Errorf("%d objects", m.Objects())
	}
}

// A full heap is collected, and the object is made where something went; if nothing did, the run ends with NoMemory.
func TestFull(t *testing.T) {
	c := api.Config{Heap: 6, Stack: 100, Fuel: 1000}
	three := code(made(link), set(aLink), made(link), pop, made(link), set(nearLink))
	m := ran(t, world(append(three, made(link), halt)...), c, report(api.Exit, "", 8, 4))
	if m.Objects() != 3 {
		t.Errorf("%d objects", m.Objects())
	}
	m = ran(t, world(append(three, made(link), made(link), halt)...), c, report(api.NoMemory, "", 7, 4))
	if m.Objects() != 3 {
		t.Errorf("%d objects", m.Objects())
	}
	m = ran(t, world(append(three, made(cell), halt)...), c, report(api.NoMemory, "", 6, 3))
	if m.Objects() != 2 {
		t.Errorf("a piece of another class does not do: %d objects", m.Objects())
	}
	loop := world(made(link), set(aLink), in(api.OpJump, 0))
	m = ran(t, loop, c, report(api.NoFuel, "", 1000, 334))
	if n := m.Objects(); n < 1 || n > 3 {
		t.Errorf("%d objects", n)
	}
	m = ran(t, world(get(aLink), call(grow), set(aLink), in(api.OpJump, 0)), c, report(api.NoMemory, "", 3*9+2, 3))
	if m.Objects() != 3 {
		t.Errorf("%d objects", m.Objects())
	}
}

// Each instruction that makes objects ends the run, if there is no room.
func TestNoMemory(t *testing.T) {
	for _, k := range []struct {
		ahead []api.Instr
		last  api.Instr
		words int
	}{
		{nil, made(cell), 1},
		{nil, made(link), 2},
		{nil, made(mixed), 4},
		{code(num(0)), in(api.OpMake, mixed), 1},
		{code(num(1)), in(api.OpMake, mixed), 4},
		{code(num(2)), in(api.OpMake, mixed), 8},
		{code(num(5)), in(api.OpMake, cell), 6},
		{code(num(100)), in(api.OpMake, pair), 256},
		{nil, in(api.OpStr, 0, cell), 1},
		{nil, in(api.OpStr, 1, cell), 4},
		{nil, in(api.OpStr, 2, cell), api.MaxLen},
		{code(in(api.OpNil, ptr(mixed))), in(api.OpBox), 2},
	} {
		p := world(append(slices.Clone(k.ahead), k.last, halt)...)
		c := api.Config{Stack: 100, Fuel: 100}
		for _, flag := range [][]bool{nil, always(1)} {
			c.Heap, c.Collects = k.words, flag
			if m := ran(t, p, c, report(api.Exit, "", len(k.ahead)+2, 1)); m.Objects() != 1 {
				t.Errorf("%v: %d objects", k.last, m.Objects())
			}
			c.Heap--
			if m := ran(t, p, c, report(api.NoMemory, "", len(k.ahead), 0)); m.Objects() != 0 {
				t.Errorf("%v: %d objects", k.last, m.Objects())
			}
		}
	}
}

// An object beyond all heaps ends the run at once: nothing is collected, but if Collects says so.
func TestBeyondAllHeaps(t *testing.T) {
	p := world(made(link), pop, num(api.MaxLen), in(api.OpMake, len(types())), halt)
	p.Types = append(p.Types, api.Layout{Fields: make([]int, 65)})
	for _, heap := range []int{2, 100, api.MaxWords} {
		c := api.Config{Heap: heap, Stack: 100, Fuel: 100}
		if m := ran(t, p, c, report(api.NoMemory, "", 3, 1)); m.Objects() != 1 {
			t.Errorf("%d objects", m.Objects())
		}
		c.Collects = once(1)
		if m := ran(t, p, c, report(api.NoMemory, "", 3, 1)); m.Objects() != 0 {
			t.Errorf("%d objects behind a collection", m.Objects())
		}
		c.Collects = once(0)
		if m := ran(t, p, c, report(api.NoMemory, "", 3, 1)); m.Objects() != 1 {
			t.Errorf("%d objects behind an early collection", m.Objects())
		}
	}
	p.Types[len(p.Types)-1].Fields = make([]int, 64)
	c := api.Config{Heap: api.MaxWords, Stack: 100, Fuel: 100}
	if m := ran(t, p, c, report(api.NoMemory, "", 3, 1)); m.Objects() != 0 {
		t.Errorf("%d objects behind ErrFull", m.Objects())
	}
	p.Funcs[0].Code[0] = in(api.OpJump, 2)
	ran(t, p, c, report(api.Exit, "", 4, 1))
	c.Heap--
	ran(t, p, c, report(api.NoMemory, "", 2, 0))
}

// Pointers to elements and fields of objects see the same words behind collections, which give words of other objects again.
func TestPointersBehindCollections(t *testing.T) {
	p := world(join(
		code(num(4), in(api.OpMake, link), set(links)),
		code(get(links), num(2), in(api.OpElem), set(nearLink), get(nearLink), num(41), store(0)),
		code(get(nearLink), in(api.OpAddr, 1, toLink), made(link), store(0)),
		code(get(nearLink), in(api.OpAddr, 0, cell), in(api.OpNil, arr(link)), set(links)),
		code(num(50), set(aWord)),
		code(made(link), dup, num(7), store(0), set(aLink), num(4), in(api.OpMake, link), pop, get(aWord), num(1), in(api.OpArith, api.Sub), dup, set(aWord), in(api.OpIf, 20)),
		code(dup, load(0), out, num(42), store(0), get(nearLink), load(0), out, get(nearLink), load(1), load(0), out, halt))...)
	if p.Funcs[0].Code[20] != made(link) {
		t.Fatalf("%v", p.Funcs[0].Code[20])
	}
	want := report(api.Exit, "41420", 20+50*14+13, 2+100)
	wantRun(t, p, want)
	for _, heap := range []int{22, 24, 30, 50} {
		c := roomy()
		c.Heap = heap
		ran(t, p, c, want)
	}
}
