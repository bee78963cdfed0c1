package inline_test

import (
	"slices"
	"testing"

	"halyard/api"
	"halyard/calls"
)

// calledBy: of a sound one, what a site calls: class by class.
func calledBy(h api.Hier, s api.Site) []int {
	if s.Iface == -1 {
		return []int{s.To}
	}
	var list []int
	for _, c := range h.Classes {
		lacks := func(name string) bool { return !slices.Contains(c.Methods, name) }
		if !slices.ContainsFunc(h.Ifaces[s.Iface], lacks) {
			list = append(list, c.Funcs[slices.Index(c.Methods, s.Method)])
		}
	}
	return list
}

// table: a line for each function, with each function in it.
type table [][]bool

// called: who calls whom.
func called(h api.Hier) table {
	out := make(table, h.Funcs)
	for f := range out {
		out[f] = make([]bool, h.Funcs)
	}
	for _, s := range h.Sites {
		for _, to := range calledBy(h, s) {
			out[s.From][to] = true
		}
	}
	return out
}

// come: who comes to whom by calls, one or more.
func (calls table) come() table {
	out := make(table, len(calls))
	for f := range calls {
		out[f] = slices.Clone(calls[f])
	}
	for by := range out {
		for from := range out {
			for to := range out {
				if out[from][by] && out[by][to] {
					out[from][to] = true
				}
			}
		}
	}
	return out
}

// alone: is the function's group it alone?
func (come table) alone(f int) bool {
	for other := range come {
		if other != f && come[f][other] && come[other][f] {
			return false
		}
	}
	return true
}

// second is a second Plan: all sites are gone through for each that is looked at. It counts why sites are not inlined, and how often one went ahead of one that was less at first.
type second struct {
	given
	calls, come  table
	size         []int
	growth       int
	looked       []bool
	sites        []int
	group, self  int
	budgets, top int
	overtook     int
}

func secondOf(g given) *second {
	p := &second{given: g, calls: called(g.h), size: slices.Clone(g.sizes), looked: make([]bool, len(g.h.Sites))}
	p.come = p.calls.come()
	for at := p.least(p.size); at >= 0; at = p.least(p.size) {
		if p.least(p.given.sizes) != at {
			p.overtook++
		}
		p.looked[at] = true
		p.look(at)
	}
	return p
}

// least: of the sites that are not looked at yet, the one whose To has the least size; -1 is none.
func (p *second) least(size []int) int {
	at := -1
	for i, s := range p.h.Sites {
		if s.Iface == -1 && !p.looked[i] && (at < 0 || size[s.To] < size[p.h.Sites[at].To]) {
			at = i
		}
	}
	return at
}

func (p *second) look(at int) {
	from, to := p.h.Sites[at].From, p.h.Sites[at].To
	switch more := p.size[to] - 1; {
	case !p.come.alone(to):
		p.group++
	case p.calls[to][to] || from == to:
		p.self++
	case p.growth+more > p.budget:
		p.budgets++
	case p.size[from]+more > p.most:
		p.top++
	default:
		p.size[from] += more
		p.growth += more
		p.sites = append(p.sites, at)
	}
}

// wrong: the second error. That of Sound is layer 13's.
func wrong(g given) api.Errno {
	if e := calls.Sound(g.h); e != api.OK {
		return e
	}
	form := len(g.sizes) != g.h.Funcs
	for _, n := range g.sizes {
		form = form || n < 1 || n > 65536
	}
	switch {
	case form:
		return api.ErrForm
	case g.budget < 0 || g.budget > 1073741824 || g.most < 0 || g.most > 1073741824:
		return api.ErrArg
	}
	return api.OK
}

// hold holds Plan against the second one, which it tells.
func hold(t *testing.T, g given) (*second, api.Errno) {
	t.Helper()
	if e := wrong(g); e != api.OK {
		wantError(t, g.h, g.sizes, g.budget, g.most, e)
		return nil, e
	}
	p := secondOf(g)
	wantPlan(t, g.h, g.sizes, g.budget, g.most, p.sites, p.size)
	return p, api.OK
}

// All lists of up to four sites among three functions, with all sizes of 1 to 3 and some bounds.
func TestAllSmallPlans(t *testing.T) {
	bounds := [][2]int{{0, 9}, {1, 9}, {3, 9}, {9, 9}, {9, 4}, {4, 3}, {9, 1}}
	for length := range 5 {
		lists := 1
		for range length {
			lists *= 9
		}
		for list := range lists {
			h := direct(3)
			for left := list; len(h.Sites) < length; left /= 9 {
				h.Sites = append(h.Sites, call(left%9/3, left%3))
			}
			for n := range 27 {
				b := bounds[(n+list)%len(bounds)]
				hold(t, given{h, []int{1 + n%3, 1 + n/3%3, 1 + n/9}, b[0], b[1]})
			}
		}
		if t.Failed() {
			return
		}
	}
}

// All ways in which one function after the other calls each of those behind it up to once, so that there are no groups of many.
func TestAllSmallTrees(t *testing.T) {
	pairs := [][2]int{{0, 1}, {0, 2}, {0, 3}, {1, 2}, {1, 3}, {2, 3}}
	for bits := range 1 << len(pairs) {
		h := direct(4)
		for i, p := range pairs {
			if bits>>i&1 != 0 {
				h.Sites = append(h.Sites, call(p[0], p[1]))
			}
		}
		for n := range 256 {
			g := given{h, []int{2 + n%4, 2 + n/4%4, 2 + n/16%4, 2 + n/64}, 30, 30}
			hold(t, g)
			g.budget, g.most = n%9, 12
			hold(t, g)
			g.h.Sites = slices.Clone(h.Sites)
			slices.Reverse(g.h.Sites)
			hold(t, g)
			g.budget, g.most = 30, 5+n%7
			hold(t, g)
		}
		if t.Failed() {
			return
		}
	}
}
