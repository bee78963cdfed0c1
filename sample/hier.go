package sample

import (
	"math"
	"slices"

	"halyard/api"
)

// Hier: a sound one, with at most nine functions. Of pick(n) come numbers from 0 to n - 1.
func Hier(pick func(n int) int) api.Hier {
	h := api.Hier{Funcs: pick(10)}
	if h.Funcs == 0 {
		return h
	}
	for range pick(6) {
		c := api.Class{Methods: hierNames(pick, 8)}
		for range c.Methods {
			c.Funcs = append(c.Funcs, pick(h.Funcs))
		}
		h.Classes = append(h.Classes, c)
	}
	for range pick(5) {
		h.Ifaces = append(h.Ifaces, hierNames(pick, 3))
	}
	for range pick(2 * h.Funcs) {
		h.Sites = append(h.Sites, hierSite(pick, h))
	}
	return h
}

// hierName: short ones, so that they meet.
func hierName(pick func(n int) int) string {
	return []string{"a", "b", "c", "d", "", "ab", "\xff"}[pick(7)]
}

// hierNames: some names, each once.
func hierNames(pick func(n int) int, most int) []string {
	var list []string
	for range pick(most + 1) {
		if name := hierName(pick); !slices.Contains(list, name) {
			list = append(list, name)
		}
	}
	return list
}

func hierSite(pick func(n int) int, h api.Hier) api.Site {
	if i := pick(2*len(h.Ifaces) + 1); i < len(h.Ifaces) && len(h.Ifaces[i]) > 0 {
		return api.Site{From: pick(h.Funcs), Iface: i, Method: h.Ifaces[i][pick(len(h.Ifaces[i]))]}
	}
	return api.Site{From: pick(h.Funcs), To: pick(h.Funcs), Iface: -1}
}

// hierNumber: one that is near to what is right, or at an end of the numbers.
func hierNumber(pick func(n int) int) int {
	if n := pick(20); n < 15 {
		return n - 3
	}
	return []int{math.MinInt, math.MaxInt, api.MaxFuncs, api.MaxFuncs + 1, 1 << 32}[pick(5)]
}

// ChangeHier makes it another one, which may be sound or not, and has few functions if it is.
func ChangeHier(pick func(n int) int, h *api.Hier) {
	at := pick(11)
	switch {
	case at == 0 && pick(4) == 0:
		h.Funcs = []int{-1, 0, api.MaxFuncs + 1, math.MinInt, math.MaxInt, 5}[pick(6)]
	case at < 4 && len(h.Classes) > 0:
		changeClass(pick, &h.Classes[pick(len(h.Classes))], at)
	case at == 4 && len(h.Ifaces) > 0:
		i := pick(len(h.Ifaces))
		h.Ifaces[i] = append(h.Ifaces[i], hierName(pick))
	case at == 5 && len(h.Ifaces) > 0:
		h.Ifaces = h.Ifaces[:pick(len(h.Ifaces))]
	case len(h.Sites) > 0:
		changeSite(pick, &h.Sites[pick(len(h.Sites))], at)
	}
}

func changeClass(pick func(n int) int, c *api.Class, at int) {
	switch {
	case at == 1 && len(c.Funcs) > 0:
		c.Funcs[pick(len(c.Funcs))] = hierNumber(pick)
	case at == 2 && len(c.Methods) > 0:
		c.Methods[pick(len(c.Methods))] = hierName(pick)
	case pick(2) == 0:
		c.Methods = append(c.Methods, hierName(pick))
	default:
		c.Funcs = append(c.Funcs, pick(3))
	}
}

func changeSite(pick func(n int) int, s *api.Site, at int) {
	switch at {
	case 6:
		s.From = hierNumber(pick)
	case 7:
		s.To = hierNumber(pick)
	case 8:
		s.Iface = hierNumber(pick)
	case 9:
		s.Method = hierName(pick)
	default:
		*s = api.Site{From: s.From, Iface: pick(5), Method: hierName(pick)}
	}
}
