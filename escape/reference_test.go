package escape_test

import (
	"slices"
	"testing"

	"halyard/api"
)

// wrong: the second error, by the chapter's words one by one.
func wrong(g given) api.Errno {
	if len(g.points) > 512 || len(g.flows) > 20000 {
		return api.ErrLarge
	}
	bad := false
	for _, p := range g.points {
		bad = bad || p.Depth < 0 || p.Depth > 512
	}
	for _, f := range g.flows {
		bad = bad || f.To < -1 || f.From < 0 || max(f.To, f.From) >= len(g.points) || f.Refs < -1 || f.Refs > 100
	}
	if bad {
		return api.ErrForm
	}
	return api.OK
}

// visit is a point, or the heap, that comes with some number.
type visit struct{ p, d int }

// walker goes all ways to a root, and tells apart all numbers up to a bound with which a point comes.
type walker struct {
	given
	bound int
	come  map[visit]int
}

func (w *walker) walk(v visit) {
	if _, been := w.come[v]; been || v.d > w.bound {
		return
	}
	w.come[v] = len(w.come)
	for _, f := range w.flows {
		if f.To == v.p {
			w.walk(visit{f.From, max(v.d, 0) + f.Refs})
		}
	}
}

// allWays: the least numbers with which each point comes to a root. No least way goes beyond twice what a way through all points may take.
func allWays(g given, root int) []int {
	most := 1
	for _, f := range g.flows {
		most = max(most, f.Refs)
	}
	w := walker{given: g, bound: 2 * most * (len(g.points) + 1), come: map[visit]int{}}
	w.walk(visit{root, 0})
	least := slices.Repeat([]int{-2}, len(g.points))
	for v := range w.come {
		if v.p >= 0 && (least[v.p] == -2 || v.d < least[v.p]) {
			least[v.p] = v.d
		}
	}
	return least
}

// missing: the first point that would have to escape too by P16.2, if just some do; -1 is none. come is by the roots, the heap first.
func missing(g given, come [][]int, escapes []bool) int {
	for i, least := range come {
		for x, d := range least {
			if d == -1 && !escapes[x] && (i == 0 || g.points[i-1].Depth < g.points[x].Depth || escapes[i-1]) {
				return x
			}
		}
	}
	return -1
}

// fewest: the points that escape in all ways in which none is missing. That none is then is looked at too.
func fewest(t *testing.T, g given, come [][]int) []int {
	t.Helper()
	all := slices.Repeat([]bool{true}, len(g.points))
	for bits := range 1 << len(g.points) {
		one := make([]bool, len(g.points))
		for p := range one {
			one[p] = bits>>p&1 != 0
		}
		if missing(g, come, one) >= 0 {
			continue
		}
		for p := range all {
			all[p] = all[p] && one[p]
		}
	}
	if missing(g, come, all) >= 0 {
		t.Errorf("there are no fewest: %+v", g)
	}
	return placesOf(all)
}

// placesOf: where it is true.
func placesOf(list []bool) []int {
	var places []int
	for i, yes := range list {
		if yes {
			places = append(places, i)
		}
	}
	return places
}

// held is what was told of a graph.
type held struct {
	e       api.Errno
	come    [][]int
	escapes []int
}

// hold holds all calls against the second ones.
func hold(t *testing.T, g given) held {
	t.Helper()
	if e := wrong(g); e != api.OK {
		wantError(t, g.points, g.flows, e, len(g.points))
		return held{e: e}
	}
	var h held
	for root := -1; root < len(g.points); root++ {
		h.come = append(h.come, allWays(g, root))
		wantReach(t, g.points, g.flows, root, h.come[root+1]...)
	}
	wantReachError(t, g.points, g.flows, -2, api.ErrNone)
	wantReachError(t, g.points, g.flows, len(g.points), api.ErrNone)
	h.escapes = fewest(t, g, h.come)
	wantEscape(t, g.points, g.flows, h.escapes...)
	return h
}

// All graphs of two points with up to one flow between each two of them, the heap among these, with some Refs, for the three ways in which their Depths may stand.
func TestAllSmallGraphs(t *testing.T) {
	pairs := [][2]int{{-1, 0}, {-1, 1}, {0, 0}, {0, 1}, {1, 0}, {1, 1}}
	refs := []int{-1, 0, 1, 2}
	for n := range 15625 {
		var flows []api.Flow
		left := n
		for _, p := range pairs {
			if left%5 > 0 {
				flows = append(flows, gets(p[0], p[1], refs[left%5-1]))
			}
			left /= 5
		}
		for _, points := range [][]api.Point{deep(1, 1), deep(0, 1), deep(2, 1)} {
			hold(t, given{points, flows})
		}
		if t.Failed() {
			return
		}
	}
}

// All lists of up to four flows among three points and the heap, with Refs of up to 1. For short ones all ways in which the Depths may stand, for others one of them.
func TestAllShortLists(t *testing.T) {
	var all []api.Flow
	for to := -1; to < 3; to++ {
		for from := range 3 {
			all = append(all, holds(to, from), gets(to, from, 0), gets(to, from, 1))
		}
	}
	depths := [][]api.Point{
		deep(0, 0, 0), deep(0, 1, 2), deep(0, 2, 1), deep(1, 0, 2), deep(2, 0, 1), deep(1, 2, 0), deep(2, 1, 0),
		deep(0, 0, 1), deep(0, 1, 0), deep(1, 0, 0), deep(0, 1, 1), deep(1, 0, 1), deep(1, 1, 0),
	}
	count := 0
	var more func(flows []api.Flow, from int)
	more = func(flows []api.Flow, from int) {
		if len(flows) == 4 {
			count++
			hold(t, given{depths[count%len(depths)], flows})
			return
		}
		for _, points := range depths {
			hold(t, given{points, flows})
		}
		for i := from; i < len(all) && !t.Failed(); i++ {
			more(append(flows, all[i]), i)
		}
	}
	more(nil, 0)
}
