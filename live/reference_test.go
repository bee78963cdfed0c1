package live_test

import (
	"slices"
	"testing"

	"halyard/api"
)

// given is what Solve is given; Order and Doms have no vars.
type given struct {
	blocks []api.Block
	vars   int
}

// wrong: the second error, by the chapter's words one by one.
func wrong(g given) api.Errno {
	if len(g.blocks) > 512 || g.vars < 0 || g.vars > 4096 {
		return api.ErrLarge
	}
	bad := false
	for _, b := range g.blocks {
		for _, v := range slices.Concat(b.Use, b.Def) {
			bad = bad || v < 0 || v > g.vars-1
		}
		for _, n := range b.Next {
			bad = bad || n < 0 || n > len(g.blocks)-1
		}
	}
	if bad {
		return api.ErrForm
	}
	return api.OK
}

// one is what a single variable is needed for, by blocks.
type one struct{ ahead, behind []bool }

// holds: does P17.1 hold of a variable, if just this is needed ahead of the blocks? What is needed behind them follows.
func (g given) holds(v int, ahead []bool) (one, bool) {
	behind := make([]bool, len(g.blocks))
	for b, block := range g.blocks {
		for _, n := range block.Next {
			behind[b] = behind[b] || ahead[n]
		}
		asked := slices.Contains(block.Use, v) || behind[b] && !slices.Contains(block.Def, v)
		if ahead[b] != asked {
			return one{}, false
		}
	}
	return one{ahead, behind}, true
}

// fewest: what is needed of a variable in all ways in which P17.1 holds. That it holds of these is looked at too.
func (g given) fewest(t *testing.T, v int) one {
	t.Helper()
	all := slices.Repeat([]bool{true}, len(g.blocks))
	for bits := range 1 << len(g.blocks) {
		ahead := make([]bool, len(g.blocks))
		for b := range ahead {
			ahead[b] = bits>>b&1 != 0
		}
		if _, fine := g.holds(v, ahead); !fine {
			continue
		}
		for b := range all {
			all[b] = all[b] && ahead[b]
		}
	}
	w, fine := g.holds(v, all)
	if !fine {
		t.Errorf("there are no fewest: %v, %d", brief(g.blocks), g.vars)
		return one{all, all}
	}
	return w
}

// needsBy: what is needed of all variables, each of which is told by itself.
func (g given) needsBy(tell func(v int) one) []need {
	list := make([]need, len(g.blocks))
	for v := range g.vars {
		w := tell(v)
		for b := range list {
			if w.ahead[b] {
				list[b].ahead = append(list[b].ahead, v)
			}
			if w.behind[b] {
				list[b].behind = append(list[b].behind, v)
			}
		}
	}
	return list
}

// visit is a block that is visited, and how many of its Next are through.
type visit struct{ b, through int }

// secondOrder: the blocks that are visited wait in a pile.
func secondOrder(blocks []api.Block) []int {
	if len(blocks) == 0 {
		return nil
	}
	var list []int
	begun := map[int]int{0: 0}
	for pile := []visit{{}}; len(pile) > 0; {
		top := &pile[len(pile)-1]
		next := blocks[top.b].Next
		if top.through == len(next) {
			list = append([]int{top.b}, list...)
			pile = pile[:len(pile)-1]
			continue
		}
		n := next[top.through]
		top.through++
		if _, been := begun[n]; !been {
			begun[n] = len(begun)
			pile = append(pile, visit{b: n})
		}
	}
	return list
}

// ways: all ways from block 0 that go through no block twice, told one by one.
func ways(blocks []api.Block, tell func(way []int)) {
	var more func(way []int)
	more = func(way []int) {
		tell(way)
		for _, n := range blocks[way[len(way)-1]].Next {
			if !slices.Contains(way, n) {
				more(append(slices.Clone(way), n))
			}
		}
	}
	if len(blocks) > 0 {
		more([]int{0})
	}
}

// throughs: of each block those through which every way from 0 to it goes, itself among them; nil, if there is no way.
func throughs(blocks []api.Block) [][]int {
	list := make([][]int, len(blocks))
	ways(blocks, func(way []int) {
		b := way[len(way)-1]
		if list[b] == nil {
			list[b] = way
			return
		}
		list[b] = slices.DeleteFunc(slices.Clone(list[b]), func(d int) bool { return !slices.Contains(way, d) })
	})
	return list
}

// domsBy: of each block the one of those that it goes through, other than itself, that goes through all others of them.
func domsBy(t *testing.T, through [][]int) []int {
	t.Helper()
	doms := make([]int, len(through))
	for b, list := range through {
		found := 0
		doms[b] = -1
		for _, d := range list {
			missing := func(other int) bool { return other != b && !slices.Contains(through[d], other) }
			if d != b && !slices.ContainsFunc(list, missing) {
				doms[b] = d
				found++
			}
		}
		if found > 1 || found == 0 && len(list) > 1 {
			t.Errorf("of %v there are %d", list, found)
		}
	}
	return doms
}

// hold holds all calls against the second ones, which try all there is.
func hold(t *testing.T, g given) (e api.Errno) {
	t.Helper()
	if e = wrong(g); e != api.OK {
		wantSolveError(t, g.blocks, g.vars, e)
	} else {
		tell := func(v int) one { return g.fewest(t, v) }
		wantSolve(t, g.blocks, g.vars, g.needsBy(tell)...)
	}
	if f := wrong(given{g.blocks, 4096}); f != api.OK {
		wantError(t, g.blocks, f)
		return e
	}
	holdShape(t, g.blocks)
	return e
}

func holdShape(t *testing.T, blocks []api.Block) {
	t.Helper()
	wantOrder(t, blocks, secondOrder(blocks)...)
	wantDoms(t, blocks, domsBy(t, throughs(blocks))...)
}

// nextLists: all lists of up to two of so many blocks.
func nextLists(count int) [][]int {
	list := [][]int{nil}
	for n := range count {
		list = append(list, of(n))
	}
	for n := range count * count {
		list = append(list, of(n/count, n%count))
	}
	return list
}

// choices: all ways of choosing a Next for each block from some lists, the blocks told one by one.
func choices(count int, lists [][]int, tell func(blocks []api.Block)) {
	blocks := make([]api.Block, count)
	var choose func(b int)
	choose = func(b int) {
		if b == count {
			tell(blocks)
			return
		}
		for _, next := range lists {
			blocks[b].Next = next
			choose(b + 1)
		}
	}
	choose(0)
}

// All blocks of up to four, with up to two Next each, in either order and both the same.
func TestAllSmallShapes(t *testing.T) {
	for count := range 5 {
		choices(count, nextLists(count), func(blocks []api.Block) {
			if !t.Failed() {
				holdShape(t, blocks)
			}
		})
	}
}

// All blocks of up to three with any Next of the others and themselves, and one variable that each of them reads, writes, does both with, or neither.
func TestAllSmallNeeds(t *testing.T) {
	for count := range 4 {
		var sets [][]int
		for bits := range 1 << count {
			sets = append(sets, slices.DeleteFunc(rising(0, count-1), func(n int) bool { return bits>>n&1 == 0 }))
		}
		choices(count, sets, func(blocks []api.Block) {
			for kinds := range 1 << (2 * count) {
				for b := range blocks {
					kind := kinds >> (2 * b)
					blocks[b].Use, blocks[b].Def = make([]int, kind&1), make([]int, kind>>1&1)
				}
				if !t.Failed() {
					hold(t, given{blocks, 1})
				}
			}
		})
	}
}
