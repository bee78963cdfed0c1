package gc_test

import (
	"math"
	"math/rand"
	"slices"
	"testing"

	"halyard/api"
	"halyard/arena"
	"halyard/gc"
)

// model is a second heap: objects with their own words in one list, of which only the addresses come from an arena. What stays is told by going through all objects till nothing is added any more.
type model struct {
	types [][]int
	room  *arena.Arena
	list  []thing
}

type thing struct {
	at, t, n int
	kinds    []int // of each word
	words    []int
	stays    bool
}

func (m *model) make(t, n int) (int, api.Errno) {
	if t < 0 || t >= len(m.types) {
		return 0, api.ErrNone
	}
	if n < 0 || n > 1024 {
		return 0, api.ErrArg
	}
	var kinds []int
	for range n {
		kinds = append(kinds, m.types[t]...)
	}
	if len(kinds) == 0 {
		kinds = []int{api.Word}
	}
	at, e := m.room.Alloc(len(kinds))
	if e != api.OK {
		return 0, e
	}
	m.list = append(m.list, thing{at: at, t: t, n: n, kinds: kinds, words: make([]int, len(kinds))})
	return at, api.OK
}

// find: the object with p among its words, and which of them that is.
func (m *model) find(p int) (*thing, int) {
	for i := range m.list {
		x := &m.list[i]
		for j := range x.words {
			if x.at+j == p {
				return x, j
			}
		}
	}
	return nil, 0
}

func (m *model) base(p int) (int, int, int, api.Errno) {
	x, _ := m.find(p)
	if x == nil {
		return 0, 0, 0, api.ErrNone
	}
	return x.at, x.t, x.n, api.OK
}

func (m *model) get(p int) (int, api.Errno) {
	x, i := m.find(p)
	if x == nil {
		return 0, api.ErrNone
	}
	return x.words[i], api.OK
}

func (m *model) set(p, v int) api.Errno {
	x, i := m.find(p)
	if x == nil {
		return api.ErrNone
	}
	if to, _ := m.find(v); x.kinds[i] != api.Word && v != 0 && to == nil {
		return api.ErrArg
	}
	x.words[i] = v
	return api.OK
}

func (m *model) collect(roots []int) (int, api.Errno) {
	for _, p := range roots {
		if x, _ := m.find(p); x == nil && p != 0 {
			return 0, api.ErrArg
		}
	}
	for i := range m.list {
		m.list[i].stays = slices.ContainsFunc(roots, m.list[i].has)
	}
	for m.spread() {
	}
	went := 0
	for _, at := range m.live() {
		if x, _ := m.find(at); !x.stays {
			m.room.Free(at)
			went++
		}
	}
	m.list = slices.DeleteFunc(m.list, func(x thing) bool { return !x.stays })
	return went, api.OK
}

func (x thing) has(p int) bool { return p >= x.at && p < x.at+len(x.words) }

// spread marks what a pointer of a marked object names; whether there was something new.
func (m *model) spread() bool {
	more := false
	for _, x := range m.list {
		for i, p := range x.words {
			if !x.stays || x.kinds[i] == api.Word {
				continue
			}
			if to, _ := m.find(p); to != nil && !to.stays {
				to.stays, more = true, true
			}
		}
	}
	return more
}

func (m *model) live() []int {
	var list []int
	for _, x := range m.list {
		list = append(list, x.at)
	}
	slices.Sort(list)
	return list
}

// pair is a heap beside its model: each call is made on both, and the answers are held against each other.
type pair struct {
	t     *testing.T
	h     *gc.Heap
	m     *model
	words int
}

func newPair(t *testing.T, words int, types ...[]int) *pair {
	t.Helper()
	room, e := arena.New(words)
	if e != api.OK {
		t.Fatal(e)
	}
	return &pair{t: t, h: made(t, words, types...), m: &model{types: types, room: room}, words: words}
}

func (p *pair) same(what string, x, y int, got, want []int, e, f api.Errno) {
	p.t.Helper()
	if !slices.Equal(got, want) || e != f {
		p.t.Fatalf("%s(%d, %d) of %v: %v, %d; want %v, %d; with %+v", what, x, y, p.m.types, got, e, want, f, p.m.list)
	}
}

func (p *pair) make(t, n int) {
	p.t.Helper()
	want, f := p.m.make(t, n)
	got, e := p.h.Make(t, n)
	p.same("Make", t, n, []int{got}, []int{want}, e, f)
}

func (p *pair) set(at, v int) {
	p.t.Helper()
	f := p.m.set(at, v)
	p.same("Set", at, v, nil, nil, p.h.Set(at, v), f)
}

func (p *pair) collect(roots ...int) {
	p.t.Helper()
	want, f := p.m.collect(roots)
	got, e := p.h.Collect(roots)
	p.same("Collect", len(roots), 0, []int{got}, []int{want}, e, f)
	p.same("Live", 0, 0, p.h.Live(), p.m.live(), 0, 0)
}

// look asks for everything at every address, and around.
func (p *pair) look() {
	p.t.Helper()
	p.same("Live", 0, 0, p.h.Live(), p.m.live(), 0, 0)
	for at := -1; at <= p.words+2; at++ {
		p.lookAt(at)
	}
	p.lookAt(math.MaxInt)
	p.lookAt(math.MinInt)
}

func (p *pair) lookAt(at int) {
	p.t.Helper()
	obj, t, n, e := p.h.Base(at)
	o, u, k, f := p.m.base(at)
	p.same("Base", at, 0, []int{obj, t, n}, []int{o, u, k}, e, f)
	got, e := p.h.Get(at)
	want, f := p.m.get(at)
	p.same("Get", at, 0, []int{got}, []int{want}, e, f)
}

// Every way of linking four cells, with every set of roots.
func TestAllLinks(t *testing.T) {
	for links := range 5 * 5 * 5 * 5 {
		for roots := range 16 {
			p := newPair(t, 8, []int{api.Word, api.Ptr})
			var list []int
			for range 4 {
				p.make(0, 1)
			}
			for i, rest := 0, links; i < 4; i, rest = i+1, rest/5 {
				p.set(1+2*i, 1+2*(rest%4))
				p.set(2+2*i, max(0, 2*(rest%5)-i%2))
				if roots>>i&1 == 1 {
					list = append(list, 1+2*i+rest%2)
				}
			}
			p.collect(list...)
			for range 4 {
				p.make(0, 1)
			}
			p.look()
		}
	}
}

// randomTypes: up to four types of up to four fields.
func randomTypes(r *rand.Rand) [][]int {
	types := make([][]int, r.Intn(5))
	for i := range types {
		types[i] = make([]int, r.Intn(5))
		for j := range types[i] {
			types[i][j] = max(0, r.Intn(2*len(types)+4)-2)
		}
	}
	return types
}

// Random calls, mostly of objects that are there.
func TestRandom(t *testing.T) {
	for seed := range 1500 {
		r := rand.New(rand.NewSource(int64(seed)))
		p := newPair(t, r.Intn(120), randomTypes(r)...)
		for range 120 {
			p.random(r)
		}
		p.look()
	}
}

// word: mostly a word of an object, but any number near the arena too.
func (p *pair) word(r *rand.Rand) int {
	if len(p.m.list) > 0 && r.Intn(12) > 0 {
		x := p.m.list[r.Intn(len(p.m.list))]
		return x.at + r.Intn(len(x.words))
	}
	return r.Intn(p.words+4) - 1
}

func (p *pair) random(r *rand.Rand) {
	p.t.Helper()
	switch k := r.Intn(20); {
	case k < 7:
		p.make(r.Intn(len(p.m.types)+1), r.Intn(1+r.Intn(6))-r.Intn(2)*r.Intn(2))
	case k < 18:
		p.set(p.word(r), p.word(r)*min(1, r.Intn(8)))
	default:
		roots := make([]int, r.Intn(6))
		for i := range roots {
			roots[i] = p.word(r)
		}
		p.collect(roots...)
	}
}

// FuzzHeap reads calls from bytes: three a call.
func FuzzHeap(f *testing.F) {
	f.Add(int64(3), 40, []byte{0, 0, 3, 1, 2, 5, 0, 1, 1, 1, 4, 9, 2, 4, 0, 0, 0, 1, 1, 8, 4, 2, 7, 1})
	f.Fuzz(func(t *testing.T, seed int64, words int, calls []byte) {
		if words < 0 || words > 200 || len(calls) > 600 {
			return
		}
		p := newPair(t, words, randomTypes(rand.New(rand.NewSource(seed)))...)
		for i := 0; i+2 < len(calls); i += 3 {
			x, y := int(calls[i+1])-1, int(calls[i+2])-1
			switch calls[i] % 3 {
			case 0:
				p.make(x, y)
			case 1:
				p.set(x, y)
			case 2:
				p.collect(x, y)
			}
		}
		p.look()
	})
}
