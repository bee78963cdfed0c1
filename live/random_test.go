package live_test

import (
	"math"
	"math/rand"
	"slices"
	"testing"

	"halyard/api"
	"halyard/live"
)

// random: up to seven sound blocks, and up to five variables. Of pick(n) come numbers from 0 to n - 1.
func random(pick func(n int) int) given {
	g := given{blocks: make([]api.Block, pick(8)), vars: pick(6)}
	most := 1 + pick(4)
	for b := range g.blocks {
		for range pick(most + 1) {
			g.blocks[b].Next = append(g.blocks[b].Next, pick(len(g.blocks)))
		}
		for range pick(4) * min(g.vars, 1) {
			list := []*[]int{&g.blocks[b].Use, &g.blocks[b].Def, &g.blocks[b].Def}[pick(3)]
			*list = append(*list, pick(g.vars))
		}
	}
	return g
}

// spoil makes something else of it, which may be sound or not.
func spoil(pick func(n int) int, g *given) {
	numbers := []int{-1, 0, 1, 2, 3, 4, 5, 6, 7, api.MaxLocals, math.MinInt, math.MaxInt}
	n := numbers[pick(len(numbers))]
	g.blocks = slices.Clone(g.blocks)
	at := pick(12)
	switch {
	case at == 0 && pick(2) == 0:
		g.vars = n
	case at == 1 && len(g.blocks) < 7:
		g.blocks = append(g.blocks, api.Block{Next: of(0)})
	case at == 2 && len(g.blocks) > 0:
		g.blocks = g.blocks[:len(g.blocks)-1]
	case at == 3 && pick(8) == 0:
		g.blocks = append(g.blocks, make([]api.Block, api.MaxPoints+1)...)
	case at > 3 && len(g.blocks) > 0:
		b := &g.blocks[pick(len(g.blocks))]
		list := []*[]int{&b.Use, &b.Def, &b.Next}[at%3]
		*list = append(slices.Clone(*list), n)
		slices.Reverse(*list)
	}
	// what is tried for all variables would take too long
	if g.vars > 10 && g.vars <= api.MaxLocals {
		g.vars = 10
	}
}

// seen counts what random ones had.
type seen struct{ fine, form, large, come, not, ahead, behind, none, first, other, back int }

func (n *seen) count(g given, e api.Errno) {
	switch e {
	case api.ErrForm:
		n.form++
		return
	case api.ErrLarge:
		n.large++
		return
	}
	n.fine++
	in, out, _ := live.Solve(g.blocks, g.vars)
	order, _ := live.Order(g.blocks)
	doms, _ := live.Doms(g.blocks)
	n.come += len(order)
	n.not += len(g.blocks) - len(order)
	for b, d := range doms {
		n.ahead += len(in[b])
		n.behind += len(out[b])
		n.none += g.vars - len(in[b])
		switch {
		case d == 0:
			n.first++
		case d > b:
			n.back++
		case d > 0:
			n.other++
		}
	}
}

// Random blocks, and such as were changed, against the second ways.
func TestRandom(t *testing.T) {
	pick := rand.New(rand.NewSource(17)).Intn
	var n seen
	for range 3000 {
		g := random(pick)
		e := hold(t, g)
		if e != api.OK {
			t.Fatalf("not sound: %+v, %d", g, e)
		}
		n.count(g, e)
		for k := 0; k < 4 && len(g.blocks) < 8; k++ {
			spoil(pick, &g)
			n.count(g, hold(t, g))
		}
		if t.Failed() {
			return
		}
	}
	for _, count := range []int{n.fine, n.form, n.large, n.come, n.not, n.ahead, n.behind, n.none, n.first, n.other, n.back} {
		if count < 100 {
			t.Errorf("too little of something: %+v", n)
		}
	}
}

// inRounds: what a variable is needed for: all blocks are gone through till nothing is added. This is for more blocks than all ways could be tried of.
func (g given) inRounds(v int) one {
	ahead, behind := make([]bool, len(g.blocks)), make([]bool, len(g.blocks))
	for more := true; more; {
		more = false
		for b, block := range g.blocks {
			for _, n := range block.Next {
				behind[b] = behind[b] || ahead[n]
			}
			if !ahead[b] && (slices.Contains(block.Use, v) || behind[b] && !slices.Contains(block.Def, v)) {
				ahead[b], more = true, true
			}
		}
	}
	return one{ahead, behind}
}

// fewer: of each block that is come to those through which every way to it goes: at first all, of which some are taken away as long as one of the blocks ahead has them not.
func fewer(blocks []api.Block, come []int) [][]int {
	list := make([][]int, len(blocks))
	for _, b := range come {
		list[b] = come
	}
	list[0] = of(0)
	for less := true; less; {
		less = false
		for _, b := range come {
			for _, n := range blocks[b].Next {
				gone := func(d int) bool { return d != n && !slices.Contains(list[b], d) }
				if n != 0 && slices.ContainsFunc(list[n], gone) {
					list[n], less = slices.DeleteFunc(slices.Clone(list[n]), gone), true
				}
			}
		}
	}
	return list
}

// large: many blocks, most of which go on near to themselves.
func large(r *rand.Rand, count, vars, most int) given {
	g := given{blocks: make([]api.Block, count), vars: vars}
	for b := range g.blocks {
		block := &g.blocks[b]
		for range r.Intn(most + 1) {
			block.Next = append(block.Next, min(max(b+r.Intn(9)-4, 0), count-1))
		}
		if b+1 < count {
			block.Next = slices.Insert(block.Next, r.Intn(len(block.Next)+1), b+1)
		}
		if r.Intn(8) == 0 {
			block.Next = append(block.Next, r.Intn(count))
		}
		for range r.Intn(3) {
			block.Use = append(block.Use, r.Intn(vars))
		}
		for range r.Intn(5) {
			block.Def = append(block.Def, r.Intn(vars))
		}
	}
	return g
}

func holdLarge(t *testing.T, g given) {
	t.Helper()
	wantSolve(t, g.blocks, g.vars, g.needsBy(g.inRounds)...)
	order := secondOrder(g.blocks)
	wantOrder(t, g.blocks, order...)
	wantDoms(t, g.blocks, domsBy(t, fewer(g.blocks, order))...)
}

// Many blocks, with few Next and with many.
func TestRandomLarge(t *testing.T) {
	r := rand.New(rand.NewSource(18))
	for k := range 150 {
		holdLarge(t, large(r, 8+r.Intn(100), 1+r.Intn(100), k%5))
		if t.Failed() {
			return
		}
	}
	holdLarge(t, large(r, api.MaxPoints, 130, 1))
	holdLarge(t, large(r, api.MaxPoints-1, 70, 3))
}

func FuzzBlocks(f *testing.F) {
	for i := range 20 {
		b := make([]byte, 40+10*i)
		rand.New(rand.NewSource(int64(i))).Read(b)
		f.Add(b)
	}
	f.Fuzz(func(t *testing.T, b []byte) {
		pick := func(n int) int {
			if len(b) == 0 {
				return 0
			}
			first := int(b[0])
			b = b[1:]
			return first % n
		}
		g := random(pick)
		for hold(t, g); len(b) > 0 && len(g.blocks) < 8; hold(t, g) {
			spoil(pick, &g)
		}
	})
}
