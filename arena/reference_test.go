package arena_test

import (
	"math"
	"math/rand"
	"slices"
	"testing"

	"halyard/api"
	"halyard/arena"
)

// record is a second arena: it keeps no state but all calls that did something, and tells each answer from them.
type record struct {
	words int
	calls []call
}

// call is what was done to the piece that begins at addr: n words of it were given, or it went back (n is 0); or a word was set.
type call struct {
	addr, n, class int
	set            bool
	v              int
}

func classOf(n int) int {
	if n >= 1 && n <= api.MaxWords {
		for _, c := range classes() {
			if c >= n {
				return c
			}
		}
	}
	return 0
}

// now: the last that was done to the piece at addr; an empty call if it was never given.
func (r *record) now(addr int) call {
	for i := len(r.calls) - 1; i >= 0; i-- {
		if c := r.calls[i]; !c.set && c.addr == addr {
			return c
		}
	}
	return call{}
}

func (r *record) line() int {
	line := 1
	for _, c := range r.calls {
		if !c.set {
			line = max(line, c.addr+c.class)
		}
	}
	return line
}

func (r *record) alloc(n int) (int, api.Errno) {
	class := classOf(n)
	if class == 0 {
		return 0, api.ErrArg
	}
	for i := len(r.calls) - 1; i >= 0; i-- {
		c := r.calls[i]
		if !c.set && c.n == 0 && c.class == class && r.now(c.addr).n == 0 {
			r.calls = append(r.calls, call{addr: c.addr, n: n, class: class})
			return c.addr, api.OK
		}
	}
	line := r.line()
	if line+class-1 > r.words {
		return 0, api.ErrFull
	}
	r.calls = append(r.calls, call{addr: line, n: n, class: class})
	return line, api.OK
}

func (r *record) free(addr int) api.Errno {
	c := r.now(addr)
	if c.n == 0 {
		return api.ErrNone
	}
	r.calls = append(r.calls, call{addr: addr, class: c.class})
	return api.OK
}

func (r *record) size(addr int) (int, api.Errno) {
	if c := r.now(addr); c.n > 0 {
		return c.n, api.OK
	}
	return 0, api.ErrNone
}

func (r *record) find(addr int) (int, api.Errno) {
	for _, at := range r.live() {
		if n := r.now(at).n; at <= addr && addr <= at+n-1 {
			return at, api.OK
		}
	}
	return 0, api.ErrNone
}

func (r *record) get(addr int) (int, api.Errno) {
	at, e := r.find(addr)
	if e != api.OK {
		return 0, e
	}
	for i := len(r.calls) - 1; ; i-- {
		c := r.calls[i]
		switch {
		case c.set && c.addr == addr:
			return c.v, api.OK
		case !c.set && c.addr == at:
			return 0, api.OK
		}
	}
}

func (r *record) put(addr, v int) api.Errno {
	if _, e := r.find(addr); e != api.OK {
		return e
	}
	r.calls = append(r.calls, call{addr: addr, set: true, v: v})
	return api.OK
}

func (r *record) live() []int {
	var list []int
	for _, c := range r.calls {
		if !c.set && r.now(c.addr).n > 0 {
			list = append(list, c.addr)
		}
	}
	slices.Sort(list)
	return slices.Compact(list)
}

// pair is an arena beside its record: each call is made on both, and the answers are held against each other.
type pair struct {
	t *testing.T
	a *arena.Arena
	r *record
}

func (p *pair) same(what string, n int, x, y int, e, f api.Errno) {
	p.t.Helper()
	if x != y || e != f {
		p.t.Fatalf("%s(%d) of %d words: %d, %d; want %d, %d; behind %v", what, n, p.r.words, x, e, y, f, p.r.calls)
	}
}

func (p *pair) do(which, n, v int) {
	p.t.Helper()
	switch which {
	case 0:
		y, f := p.r.alloc(n)
		x, e := p.a.Alloc(n)
		p.same("Alloc", n, x, y, e, f)
	case 1:
		f := p.r.free(n)
		p.same("Free", n, 0, 0, p.a.Free(n), f)
	case 2:
		f := p.r.put(n, v)
		p.same("Set", n, 0, 0, p.a.Set(n, v), f)
	}
}

// look asks for everything at every address, and around.
func (p *pair) look() {
	p.t.Helper()
	if got, want := p.a.Live(), p.r.live(); !slices.Equal(got, want) {
		p.t.Fatalf("Live: %v; want %v; behind %v", got, want, p.r.calls)
	}
	for addr := -1; addr <= p.r.words+2; addr++ {
		p.lookAt(addr)
	}
	p.lookAt(math.MaxInt)
	p.lookAt(math.MinInt)
}

func (p *pair) lookAt(addr int) {
	p.t.Helper()
	x, e := p.a.Size(addr)
	y, f := p.r.size(addr)
	p.same("Size", addr, x, y, e, f)
	x, e = p.a.Find(addr)
	y, f = p.r.find(addr)
	p.same("Find", addr, x, y, e, f)
	x, e = p.a.Get(addr)
	y, f = p.r.get(addr)
	p.same("Get", addr, x, y, e, f)
}

func newPair(t *testing.T, words int) *pair {
	return &pair{t: t, a: made(t, words), r: &record{words: words}}
}

// Every way of four calls on a small arena: any piece of 1 to 5 words, any piece back.
func TestAllShortWays(t *testing.T) {
	const words, kinds, most = 7, 11, 4
	for code := range kinds * kinds * kinds * kinds {
		p := newPair(t, words)
		for range most {
			k := code % kinds
			code /= kinds
			if k < 5 {
				p.do(0, k+1, 0)
			} else {
				p.do(1, k-4, 0)
			}
		}
		p.look()
	}
}

// Random calls, mostly of pieces that are there.
func TestRandom(t *testing.T) {
	for seed := range 300 {
		r := rand.New(rand.NewSource(int64(seed)))
		p := newPair(t, r.Intn(60))
		for range 80 {
			randomCall(r, p)
		}
		p.look()
	}
}

func randomCall(r *rand.Rand, p *pair) {
	p.t.Helper()
	live := p.r.live()
	some := r.Intn(p.r.words+4) - 1
	if len(live) > 0 && r.Intn(4) > 0 {
		some = live[r.Intn(len(live))]
	}
	switch k := r.Intn(8); {
	case k < 3:
		p.do(0, 1+r.Intn(1+r.Intn(14)), 0)
	case k < 6:
		p.do(1, some, 0)
	default:
		p.do(2, some+r.Intn(3), r.Intn(100)-50)
	}
}

// Random calls with great pieces.
func TestRandomGreat(t *testing.T) {
	for seed := range 20 {
		r := rand.New(rand.NewSource(int64(1000 + seed)))
		p := newPair(t, api.MaxWords-r.Intn(2)*r.Intn(api.MaxWords))
		for range 60 {
			live := p.r.live()
			if len(live) > 0 && r.Intn(2) == 0 {
				p.do(1, live[r.Intn(len(live))], 0)
			} else {
				p.do(0, 1+r.Intn(1+r.Intn(20000)), 0)
			}
		}
		for _, at := range p.r.live() {
			n, _ := p.r.size(at)
			for _, addr := range []int{at - 1, at, at + n - 1, at + n, at + classOf(n) - 1, at + classOf(n)} {
				p.do(2, addr, addr+9)
				p.lookAt(addr)
			}
		}
	}
}

// FuzzArena reads calls from bytes: three a call.
func FuzzArena(f *testing.F) {
	f.Add(20, []byte{0, 5, 0, 0, 3, 0, 0, 1, 0, 1, 1, 0, 0, 6, 0, 0, 11, 0, 2, 9, 3})
	f.Fuzz(func(t *testing.T, words int, calls []byte) {
		if words < 0 || words > 200 || len(calls) > 600 {
			return
		}
		p := newPair(t, words)
		for i := 0; i+2 < len(calls); i += 3 {
			p.do(int(calls[i]%3), int(calls[i+1])-1, int(calls[i+2])-100)
		}
		p.look()
	})
}
