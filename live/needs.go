package live

import "halyard/api"

// variable tells of one which blocks read it before they write it, and which write it.
type variable struct{ use, def set }

func variablesOf(blocks []api.Block, vars int) []variable {
	list := make([]variable, vars)
	for b, block := range blocks {
		for _, v := range block.Use {
			list[v].use.add(b)
		}
		for _, v := range block.Def {
			list[v].def.add(b)
		}
	}
	return list
}

// needs: the variables that are needed ahead of each block, and behind it. Each one is gone after by itself, so that the lists rise.
func needs(blocks []api.Block, vars int) (in, out [][]int) {
	in, out = make([][]int, len(blocks)), make([][]int, len(blocks))
	from, list := comeFrom(blocks), variablesOf(blocks, vars)
	for v := range vars {
		ahead, behind := from.needed(list[v])
		ahead.each(func(b int) { in[b] = append(in[b], v) })
		behind.each(func(b int) { out[b] = append(out[b], v) })
	}
	return in, out
}

// needed: ahead of which blocks a variable is needed, and behind which, in a graph that goes back.
func (g graph) needed(v variable) (ahead, behind set) {
	var need func(b int)
	need = func(b int) {
		if ahead.has(b) {
			return
		}
		ahead.add(b)
		fresh := g[b].less(behind)
		behind.join(fresh)
		fresh.less(v.def).each(need)
	}
	v.use.each(need)
	return ahead, behind
}
