package inline

import (
	"container/heap"
	"slices"

	"halyard/api"
	"halyard/calls"
)

// planner has what changes while sites are looked at, and what they are held against.
type planner struct {
	sites        []api.Site
	single       []bool // of each function: it comes to itself by no calls
	sizes        []int
	growth       int
	budget, most int
	queue        queue
}

func plannerOf(h api.Hier, sizes []int, budget, most int) *planner {
	p := &planner{sites: h.Sites, single: single(h), budget: budget, most: most}
	p.sizes = append(p.sizes, sizes...)
	for i, s := range h.Sites {
		if s.Iface == -1 {
			p.queue = append(p.queue, waiting{site: i, size: sizes[s.To]})
		}
	}
	heap.Init(&p.queue)
	return p
}

// single: of each function of a sound Hier, is its group it alone, and does it not call itself?
func single(h api.Hier) []bool {
	list := make([]bool, h.Funcs)
	groups, _ := calls.Groups(h)
	for _, group := range groups {
		list[group[0]] = len(group) == 1
	}
	targets, _ := calls.Targets(h)
	for i, s := range h.Sites {
		if slices.Contains(targets[i], s.From) {
			list[s.From] = false
		}
	}
	return list
}

// next takes out the site that is looked at now. Sizes only grow: so a site whose To has the size that it had when the site was put in is the least of all, and another one goes back with the size of now.
func (p *planner) next() int {
	for {
		one := heap.Pop(&p.queue).(waiting)
		now := p.sizes[p.sites[one.site].To]
		if one.size == now {
			return one.site
		}
		heap.Push(&p.queue, waiting{site: one.site, size: now})
	}
}

// inline: is the site inlined? If so, From grows. From is not To then, for To would call itself.
func (p *planner) inline(s api.Site) bool {
	more := p.sizes[s.To] - 1
	if !p.single[s.To] || p.growth+more > p.budget || p.sizes[s.From]+more > p.most {
		return false
	}
	p.sizes[s.From] += more
	p.growth += more
	return true
}
