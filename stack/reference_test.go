package stack_test

import (
	"math"
	"math/rand"
	"slices"
	"testing"

	"halyard/api"
	"halyard/stack"
)

// model is a second stack: each frame has its own cells, which know no addresses. Whenever one is asked for, all cells are laid out anew.
type model struct {
	base, most int
	frames     [][]*cell
}

type cell struct {
	v   int
	ptr bool
}

// layout: which cell has which address.
func (m *model) layout() map[int]*cell {
	all := map[int]*cell{}
	for _, c := range slices.Concat(m.frames...) {
		all[m.base+len(all)] = c
	}
	return all
}

func (m *model) push(ptrs []bool) api.Errno {
	if len(m.frames) == 1000 || len(m.layout())+len(ptrs) > m.most {
		return api.ErrFull
	}
	var frame []*cell
	for _, ptr := range ptrs {
		frame = append(frame, &cell{ptr: ptr})
	}
	m.frames = append(m.frames, frame)
	return api.OK
}

func (m *model) pop() api.Errno {
	if len(m.frames) == 0 {
		return api.ErrNone
	}
	last := m.frames[len(m.frames)-1]
	all := m.layout()
	for _, c := range all {
		if c.ptr && !slices.Contains(last, c) && slices.Contains(last, all[c.v]) {
			return api.ErrArg
		}
	}
	m.frames = m.frames[:len(m.frames)-1]
	return api.OK
}

func (m *model) sizes() []int {
	var list []int
	for _, f := range m.frames {
		list = append(list, len(f))
	}
	return list
}

func (m *model) addr(frame, i int) (int, api.Errno) {
	if frame < 0 || frame >= len(m.frames) || i < 0 || i >= len(m.frames[frame]) {
		return 0, api.ErrNone
	}
	return addressOf(m.layout(), m.frames[frame][i]), api.OK
}

func addressOf(all map[int]*cell, c *cell) int {
	for at, other := range all {
		if other == c {
			return at
		}
	}
	return 0
}

func (m *model) get(addr int) (int, api.Errno) {
	if c := m.layout()[addr]; c != nil {
		return c.v, api.OK
	}
	return 0, api.ErrNone
}

func (m *model) set(addr, v int) api.Errno {
	c := m.layout()[addr]
	if c == nil {
		return api.ErrNone
	}
	c.v = v
	return api.OK
}

func (m *model) move(base int) (int, api.Errno) {
	if base < 1 || base > greatest {
		return 0, api.ErrArg
	}
	named := map[*cell]*cell{}
	all := m.layout()
	for _, c := range all {
		if to := all[c.v]; c.ptr && to != nil {
			named[c] = to
		}
	}
	m.base = base
	all = m.layout()
	for c, to := range named {
		c.v = addressOf(all, to)
	}
	return len(named), api.OK
}

// pair is a stack beside its model: each call is made on both, and the answers are held against each other.
type pair struct {
	t *testing.T
	s *stack.Stack
	m *model
}

func newPair(t *testing.T, base, most int) *pair {
	t.Helper()
	return &pair{t: t, s: made(t, base, most), m: &model{base: base, most: most}}
}

func (p *pair) same(what string, x, y int, got, want []int, e, f api.Errno) {
	p.t.Helper()
	if !slices.Equal(got, want) || e != f {
		p.t.Fatalf("%s(%d, %d): %v, %d; want %v, %d; at %d with %v", what, x, y, got, e, want, f, p.m.base, p.m.sizes())
	}
}

func (p *pair) push(ptrs []bool) {
	p.t.Helper()
	f := p.m.push(ptrs)
	p.same("Push", len(ptrs), 0, nil, nil, p.s.Push(ptrs), f)
}

func (p *pair) pop() {
	p.t.Helper()
	f := p.m.pop()
	p.same("Pop", 0, 0, nil, nil, p.s.Pop(), f)
}

func (p *pair) set(addr, v int) {
	p.t.Helper()
	f := p.m.set(addr, v)
	p.same("Set", addr, v, nil, nil, p.s.Set(addr, v), f)
}

func (p *pair) move(base int) {
	p.t.Helper()
	want, f := p.m.move(base)
	got, e := p.s.Move(base)
	p.same("Move", base, 0, []int{got}, []int{want}, e, f)
}

// look asks for every frame and every word, and around.
func (p *pair) look() {
	p.t.Helper()
	p.same("Frames", 0, 0, p.s.Frames(), p.m.sizes(), 0, 0)
	for frame := -1; frame <= len(p.m.frames); frame++ {
		for i := -1; i <= 6; i++ {
			got, e := p.s.Addr(frame, i)
			want, f := p.m.addr(frame, i)
			p.same("Addr", frame, i, []int{got}, []int{want}, e, f)
		}
	}
	for at := p.m.base - 3; at <= p.m.base+p.m.most+3; at++ {
		p.lookAt(at)
	}
	p.lookAt(math.MaxInt)
	p.lookAt(math.MinInt)
}

func (p *pair) lookAt(at int) {
	p.t.Helper()
	got, e := p.s.Get(at)
	want, f := p.m.get(at)
	p.same("Get", at, 0, []int{got}, []int{want}, e, f)
}

// Three words in every cut into frames, each a pointer or none, with every number in and around the stack; then Pop, and Move at and around where it stands.
func TestAllSmall(t *testing.T) {
	const near = 6 // 0, an address ahead of the words, each of theirs, and one behind them
	for cut := range 4 {
		for ptrs := range 8 {
			for values := range near * near * near {
				p := newPair(t, 10, 4)
				p.pushCut(cut, ptrs)
				for i, rest := 0, values; i < 3; i, rest = i+1, rest/near {
					if v := rest % near; v > 0 {
						p.set(10+i, 8+v)
					}
				}
				p.move(8 + (cut+ptrs+values)%5)
				p.pop()
				p.push([]bool{false})
				p.pop()
				p.look()
			}
		}
	}
}

// pushCut pushes three words, of which the bits of ptrs say which are pointers; those of cut, where a frame ends ahead of the third.
func (p *pair) pushCut(cut, ptrs int) {
	p.t.Helper()
	var frame []bool
	for i := range 3 {
		frame = append(frame, ptrs>>i&1 == 1)
		if i == 2 || cut>>i&1 == 1 {
			p.push(frame)
			frame = nil
		}
	}
}

// Random calls, mostly of words that are there.
func TestRandom(t *testing.T) {
	for seed := range 1500 {
		r := rand.New(rand.NewSource(int64(seed)))
		p := newPair(t, 1+r.Intn(50), r.Intn(40))
		for range 120 {
			p.random(r)
		}
		p.look()
	}
}

// word: mostly a word's address, but any number near the stack too.
func (p *pair) word(r *rand.Rand) int {
	if n := len(p.m.layout()); n > 0 && r.Intn(8) > 0 {
		return p.m.base + r.Intn(n)
	}
	return p.m.base - 5 + r.Intn(p.m.most+10)
}

func (p *pair) random(r *rand.Rand) {
	p.t.Helper()
	switch k := r.Intn(20); {
	case k < 5:
		ptrs := make([]bool, r.Intn(5))
		for i := range ptrs {
			ptrs[i] = r.Intn(2) == 0
		}
		p.push(ptrs)
	case k < 9:
		p.pop()
	case k < 17:
		p.set(p.word(r), p.word(r)*min(1, r.Intn(4)))
	default:
		p.move(r.Intn(100))
	}
}

// FuzzStack reads calls from bytes: three a call.
func FuzzStack(f *testing.F) {
	f.Add(9, 12, []byte{0, 3, 2, 0, 2, 3, 2, 10, 13, 2, 13, 9, 1, 0, 0, 3, 10, 0, 1, 0, 0, 3, 40, 0})
	f.Fuzz(func(t *testing.T, base, most int, calls []byte) {
		if base < 1 || base > 250 || most < 0 || most > 60 || len(calls) > 600 {
			return
		}
		p := newPair(t, base, most)
		for i := 0; i+2 < len(calls); i += 3 {
			x, y := int(calls[i+1]), int(calls[i+2])
			switch calls[i] % 4 {
			case 0:
				ptrs := make([]bool, x%9)
				for j := range ptrs {
					ptrs[j] = y>>j&1 == 1
				}
				p.push(ptrs)
			case 1:
				p.pop()
			case 2:
				p.set(x, y)
			case 3:
				p.move(x)
			}
		}
		p.look()
	})
}
