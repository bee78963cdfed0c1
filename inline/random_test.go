package inline_test

import (
	"math"
	"math/rand"
	"testing"

	"halyard/api"
	"halyard/sample"
)

// random: what is right, with sizes that meet one another.
func random(pick func(n int) int) given {
	g := given{h: sample.Hier(pick)}
	for range pick(2*g.h.Funcs + 1) {
		g.h.Sites = append(g.h.Sites, call(pick(g.h.Funcs), pick(g.h.Funcs)))
	}
	if pick(2) == 0 {
		forward(&g.h)
	}
	span := 1 + pick(8)
	for range g.h.Funcs {
		g.sizes = append(g.sizes, 1+pick(span))
	}
	g.budget, g.most = pick(60), 3+pick(30)
	if pick(2) == 0 {
		g.most = 1000
	}
	return g
}

// forward turns direct sites round, so that nobody is called by one behind it.
func forward(h *api.Hier) {
	for i := range h.Sites {
		if s := &h.Sites[i]; s.Iface == -1 && s.From > s.To {
			s.From, s.To = s.To, s.From
		}
	}
}

// spoil makes something else of it, which may be right or not.
func spoil(pick func(n int) int, g *given) {
	numbers := []int{-1, 0, 1, 2, api.MaxCode, api.MaxCode + 1, bound, bound + 1, math.MinInt, math.MaxInt}
	switch at := pick(8); {
	case at == 0 && len(g.sizes) > 0:
		g.sizes[pick(len(g.sizes))] = numbers[pick(len(numbers))]
	case at == 1 && len(g.sizes) > 0:
		g.sizes = g.sizes[:len(g.sizes)-1]
	case at == 2:
		g.sizes = append(g.sizes, 1+pick(4))
	case at == 3:
		g.budget = numbers[pick(len(numbers))]
	case at == 4:
		g.most = numbers[pick(len(numbers))]
	default:
		sample.ChangeHier(pick, &g.h)
	}
}

// seen counts what random ones had.
type seen struct{ fine, form, large, arg, inlined, group, self, budgets, top, overtook, asked int }

func (n *seen) count(p *second, e api.Errno) {
	switch e {
	case api.ErrForm:
		n.form++
	case api.ErrLarge:
		n.large++
	case api.ErrArg:
		n.arg++
	default:
		n.fine++
		n.inlined += len(p.sites)
		n.group += p.group
		n.self += p.self
		n.budgets += p.budgets
		n.top += p.top
		n.overtook += p.overtook
		for _, s := range p.h.Sites {
			if s.Iface >= 0 {
				n.asked++
			}
		}
	}
}

// Random ones, and such as were changed, against the second way.
func TestRandom(t *testing.T) {
	pick := rand.New(rand.NewSource(15)).Intn
	var n seen
	for range 20000 {
		g := random(pick)
		p, e := hold(t, g)
		if e != api.OK {
			t.Fatalf("not right: %+v, %d", g, e)
		}
		n.count(p, e)
		for range 3 {
			spoil(pick, &g)
			n.count(hold(t, g))
		}
		if t.Failed() {
			return
		}
	}
	for _, count := range []int{n.fine, n.form, n.large, n.arg, n.inlined, n.group, n.self, n.budgets, n.top, n.overtook, n.asked} {
		if count < 200 {
			t.Errorf("too little of something: %+v", n)
		}
	}
}

// Many functions and sites, with sizes of all kinds and bounds that are met late.
func TestRandomLarge(t *testing.T) {
	r := rand.New(rand.NewSource(16))
	for k := range 120 {
		funcs := 2 + r.Intn(120)
		g := given{h: direct(funcs), budget: r.Intn(1 << (5 + k%26)), most: bound >> r.Intn(15)}
		for range funcs {
			g.sizes = append(g.sizes, 1+r.Intn(1<<(1+k%16)))
		}
		for range r.Intn(6 * funcs) {
			g.h.Sites = append(g.h.Sites, call(r.Intn(funcs), r.Intn(funcs)))
		}
		hold(t, g)
		forward(&g.h)
		hold(t, g)
	}
}

func FuzzPlan(f *testing.F) {
	for i := range 20 {
		b := make([]byte, 40+10*i)
		rand.New(rand.NewSource(int64(i))).Read(b)
		f.Add(b)
	}
	f.Fuzz(func(t *testing.T, b []byte) {
		pick := func(n int) int {
			if len(b) == 0 {
				return 0
			}
			first := int(b[0])
			b = b[1:]
			return first % n
		}
		g := random(pick)
		hold(t, g)
		for len(b) > 0 {
			spoil(pick, &g)
			hold(t, g)
		}
	})
}
