package escape_test

import (
	"math"
	"math/rand"
	"slices"
	"testing"

	"halyard/api"
)

// random: a sound graph, with flows that meet one another. Of pick(n) come numbers from 0 to n - 1.
func random(pick func(n int) int) given {
	var g given
	count, span := pick(7), 1+pick(5)
	for range count {
		g.points = append(g.points, api.Point{Depth: pick(span), Alloc: pick(3) > 0})
	}
	if count == 0 {
		return g
	}
	most := []int{2, 3, 4, 7, 12}[pick(5)]
	for range pick(4 * count) {
		g.flows = append(g.flows, gets(pick(count+1)-1, pick(count), max(pick(2*most)-most, -1)))
	}
	return g
}

// spoil makes another graph of it, which may be sound or not.
func spoil(pick func(n int) int, g *given) {
	numbers := []int{-2, -1, 0, 1, 2, 3, 4, 5, 6, 7, api.MaxDepth, api.MaxDepth + 1, api.MaxPoints, api.MaxPoints + 1, math.MinInt, math.MaxInt}
	n := numbers[pick(len(numbers))]
	switch at := pick(12); {
	case at == 0 && len(g.points) < 7:
		g.points = append(g.points, flat(1)...)
	case at == 1 && len(g.points) > 0:
		g.points = g.points[:len(g.points)-1]
	case at == 2 && pick(8) == 0:
		g.points = append(g.points, flat(api.MaxPoints+1)...)
	case at == 3 && len(g.points) > 0:
		g.points[pick(len(g.points))].Depth = n
	case at == 4 && len(g.points) > 0:
		g.points[pick(len(g.points))].Alloc = pick(2) > 0
	case len(g.flows) > 0:
		f := &g.flows[pick(len(g.flows))]
		fields := []*int{&f.To, &f.From, &f.Refs}
		*fields[at%len(fields)] = n
	}
}

// seen counts what random ones had.
type seen struct{ fine, form, large, escape, stay, apart, address, own, more, indirect int }

func (n *seen) count(g given, h held) {
	switch h.e {
	case api.ErrForm:
		n.form++
		return
	case api.ErrLarge:
		n.large++
		return
	}
	n.fine++
	n.escape += len(h.escapes)
	n.stay += len(g.points) - len(h.escapes)
	for i, least := range h.come {
		for p, d := range least {
			switch {
			case d == apart:
				n.apart++
			case d == -1 && p == i-1:
				n.own++
			case d == -1:
				n.address++
			case d > 1:
				n.more++
			}
		}
	}
	n.indirect += byOthers(g, h)
}

// byOthers: how many points escape that neither the heap nor a point of a lesser Depth has the address of.
func byOthers(g given, h held) int {
	count := 0
	for _, x := range h.escapes {
		direct := h.come[0][x] == -1
		for root, p := range g.points {
			direct = direct || p.Depth < g.points[x].Depth && h.come[root+1][x] == -1
		}
		if !direct {
			count++
		}
	}
	return count
}

// Random graphs, and such as were changed, against the second way.
func TestRandom(t *testing.T) {
	pick := rand.New(rand.NewSource(16)).Intn
	var n seen
	for range 5000 {
		g := random(pick)
		h := hold(t, g)
		if h.e != api.OK {
			t.Fatalf("not sound: %+v, %d", g, h.e)
		}
		n.count(g, h)
		for k := 0; k < 4 && h.e != api.ErrLarge; k++ {
			spoil(pick, &g)
			h = hold(t, g)
			n.count(g, h)
		}
		if t.Failed() {
			return
		}
	}
	for _, count := range []int{n.fine, n.form, n.large, n.escape, n.stay, n.apart, n.address, n.own, n.more, n.indirect} {
		if count < 100 {
			t.Errorf("too little of something: %+v", n)
		}
	}
}

// inRounds: what comes to a root: all flows are gone through till nothing changes. This is for graphs that have too many ways.
func inRounds(g given, root int) []int {
	const far = 1 << 40
	least := slices.Repeat([]int{far}, len(g.points)+1)
	least[root+1] = 0
	for old := least[:0]; !slices.Equal(old, least); {
		old = slices.Clone(least)
		for _, f := range g.flows {
			if d := least[f.To+1]; d < far {
				least[f.From+1] = min(least[f.From+1], max(d, 0)+f.Refs)
			}
		}
	}
	for i := range least {
		if least[i] == far {
			least[i] = apart
		}
	}
	return least[1:]
}

// grown: the points that escape: one more is added as long as one is missing.
func grown(g given, come [][]int) []int {
	escapes := make([]bool, len(g.points))
	for x := missing(g, come, escapes); x >= 0; x = missing(g, come, escapes) {
		escapes[x] = true
	}
	return placesOf(escapes)
}

// holdLarge holds all calls against the second ones that have no bound. It tells how many points escape.
func holdLarge(t *testing.T, g given) int {
	t.Helper()
	var come [][]int
	for root := range len(g.points) + 1 {
		come = append(come, inRounds(g, root-1))
		wantReach(t, g.points, g.flows, root-1, come[root]...)
	}
	escapes := grown(g, come)
	wantEscape(t, g.points, g.flows, escapes...)
	return len(escapes)
}

// Graphs of many points, with few flows and with many.
func TestRandomLarge(t *testing.T) {
	r := rand.New(rand.NewSource(17))
	all, escapes := 0, 0
	for k := range 100 {
		var g given
		count, span, most := 7+r.Intn(60), 1+r.Intn(9), []int{0, 1, 2, 5, api.MaxDepth}[k%5]
		for range count {
			g.points = append(g.points, api.Point{Depth: r.Intn(span), Alloc: r.Intn(2) > 0})
		}
		for range count * (2 + k%7) / 2 {
			refs := max(r.Intn(2*most+2)-most-1, -1)
			g.flows = append(g.flows, gets(max(r.Intn(count+1)-1, r.Intn(8)-1), r.Intn(count), refs))
		}
		all += count
		escapes += holdLarge(t, g)
		if t.Failed() {
			return
		}
	}
	if min(escapes, all-escapes) < 500 {
		t.Errorf("of %d points %d escape", all, escapes)
	}
}

// Graphs at the limits, and near to them.
func TestRandomLargest(t *testing.T) {
	r := rand.New(rand.NewSource(18))
	for _, count := range []int{600, 1200, 4000, api.MaxTokens} {
		g := given{points: flat(api.MaxPoints)}
		for p := range g.points {
			g.points[p].Depth = r.Intn(api.MaxPoints + 1)
		}
		for range count {
			refs := []int{-1, 0, 0, 1, r.Intn(api.MaxDepth + 1)}[r.Intn(5)]
			g.flows = append(g.flows, gets(r.Intn(api.MaxPoints+1)-1, r.Intn(api.MaxPoints), refs))
		}
		holdLarge(t, g)
	}
}

func FuzzGraph(f *testing.F) {
	for i := range 20 {
		b := make([]byte, 40+10*i)
		rand.New(rand.NewSource(int64(i))).Read(b)
		f.Add(b)
	}
	f.Fuzz(func(t *testing.T, b []byte) {
		pick := func(n int) int {
			if len(b) == 0 {
				return 0
			}
			first := int(b[0])
			b = b[1:]
			return first % n
		}
		g := random(pick)
		for h := hold(t, g); len(b) > 0 && h.e != api.ErrLarge; h = hold(t, g) {
			spoil(pick, &g)
		}
	})
}
