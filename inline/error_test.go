package inline_test

import (
	"math"
	"slices"
	"strconv"
	"testing"

	"halyard/api"
	"halyard/inline"
)

// bound is the most that budget and most may be.
const bound = 1073741824

// world: four functions, with a class, interfaces and sites of both kinds.
func world() api.Hier { return asked(call(0, 1), call(3, 2), ask(0, 1, "b")) }

// given is what Plan is handed.
type given struct {
	h            api.Hier
	sizes        []int
	budget, most int
}

func fine() given { return given{h: world(), sizes: []int{10, 5, 1, 4}, budget: 100, most: 100} }

// change is one thing that is done to what is given.
type change func(g *given)

// wide: what Sound calls ErrLarge.
func wide() map[string]change {
	return map[string]change{
		"functions":          func(g *given) { g.h.Funcs = api.MaxFuncs + 1 },
		"functions, sizes":   func(g *given) { g.h.Funcs, g.sizes = api.MaxFuncs+1, slices.Repeat([]int{1}, api.MaxFuncs+1) },
		"the most functions": func(g *given) { g.h.Funcs = math.MaxInt },
		"classes":            func(g *given) { g.h.Classes = make([]api.Class, api.MaxTypes+1) },
		"interfaces":         func(g *given) { g.h.Ifaces = make([][]string, api.MaxTypes+1) },
		"sites":              func(g *given) { g.h.Sites = slices.Repeat([]api.Site{call(0, 1)}, api.MaxTokens+1) },
	}
}

// unformed: what Sound calls ErrForm.
func unformed() map[string]change {
	list := map[string]change{
		"two methods of one name":      func(g *given) { g.h.Classes[0].Methods = []string{"a", "a"} },
		"too few functions":            func(g *given) { g.h.Classes[0].Funcs = []int{2} },
		"too many functions":           func(g *given) { g.h.Classes[1].Funcs = []int{1, 1} },
		"an interface's name twice":    func(g *given) { g.h.Ifaces[2] = []string{"c", "c"} },
		"a direct call with a method":  func(g *given) { g.h.Sites[1].Method = "a" },
		"a method of no interface":     func(g *given) { g.h.Sites[0].Method = "b" },
		"an interface and a To":        func(g *given) { g.h.Sites[0].To = 1 },
		"nothing but zero values":      func(g *given) { g.h.Sites[1] = api.Site{} },
		"functions, but for the sizes": func(g *given) { g.h.Funcs, g.sizes = 2, []int{1, 1} },
		"no functions, no sizes":       func(g *given) { g.h.Funcs, g.sizes = 0, nil },
	}
	for _, n := range []int{-1, -2, 4, 5, api.MaxFuncs, math.MinInt, math.MaxInt, 1 << 32, -1 << 32} {
		name := strconv.Itoa(n)
		list["From "+name] = func(g *given) { g.h.Sites[1].From = n }
		list["To "+name] = func(g *given) { g.h.Sites[2].To = n }
		list["From of an interface's "+name] = func(g *given) { g.h.Sites[3].From = n }
		list["a method's function "+name] = func(g *given) { g.h.Classes[1].Funcs[0] = n }
		if n != -1 {
			list["Iface "+name] = func(g *given) { g.h.Sites[1].Iface = n }
		}
		if n < 0 {
			list["Funcs "+name] = func(g *given) { g.h.Funcs = n }
			list["Funcs "+name+" and nothing else"] = func(g *given) { g.h, g.sizes = api.Hier{Funcs: n}, nil }
		}
	}
	return list
}

// missized: what the chapter calls ErrForm itself.
func missized() map[string]change {
	list := map[string]change{
		"no sizes":        func(g *given) { g.sizes = nil },
		"empty sizes":     func(g *given) { g.sizes = []int{} },
		"one too few":     func(g *given) { g.sizes = g.sizes[:3] },
		"one too many":    func(g *given) { g.sizes = append(g.sizes, 1) },
		"far too many":    func(g *given) { g.sizes = slices.Repeat([]int{1}, 100000) },
		"of no functions": func(g *given) { g.h, g.sizes = api.Hier{}, []int{1} },
	}
	for _, n := range []int{0, -1, -2, -api.MaxCode, api.MaxCode + 1, 2 * api.MaxCode, bound, math.MinInt, math.MaxInt, 1 << 32, 1<<32 + 1, -1<<32 + 1} {
		for at := range 4 {
			list["size "+strconv.Itoa(n)+" at "+strconv.Itoa(at)] = func(g *given) { g.sizes[at] = n }
		}
	}
	return list
}

// beyond: what is ErrArg.
func beyond() map[string]change {
	list := map[string]change{}
	for _, n := range []int{-1, -2, -bound, bound + 1, 2 * bound, 4 * bound, -4 * bound, math.MinInt, math.MaxInt, math.MaxInt32} {
		list["budget "+strconv.Itoa(n)] = func(g *given) { g.budget = n }
		list["most "+strconv.Itoa(n)] = func(g *given) { g.most = n }
		list["both "+strconv.Itoa(n)] = func(g *given) { g.budget, g.most = n, n }
	}
	return list
}

// wantAll: each of these alone is that error, and it stands ahead of all others that may come with it.
func wantAll(t *testing.T, list map[string]change, want api.Errno, later ...map[string]change) {
	t.Helper()
	tell := func(g given, name string) {
		t.Helper()
		if sites, after, e := inline.Plan(g.h, g.sizes, g.budget, g.most); e != want || len(sites) > 0 || len(after) > 0 {
			t.Errorf("%s: %v, %v, %d, want %d", name, sites, after, e, want)
		}
	}
	for name, do := range list {
		g := fine()
		do(&g)
		tell(g, name)
		for _, others := range later {
			for other, also := range others {
				g := fine()
				also(&g)
				do(&g)
				tell(g, name+", and "+other)
			}
		}
	}
}

func TestFine(t *testing.T) {
	g := fine()
	wantPlan(t, g.h, g.sizes, g.budget, g.most, []int{2, 1}, []int{14, 5, 1, 4})
}

// The error of Sound stands ahead of all others.
func TestUnsound(t *testing.T) {
	wantAll(t, wide(), api.ErrLarge, unformed(), missized(), beyond())
	wantAll(t, unformed(), api.ErrForm, beyond())
}

// ErrForm of the sizes stands ahead of ErrArg.
func TestWrongSizes(t *testing.T) { wantAll(t, missized(), api.ErrForm, beyond()) }

func TestWrongBounds(t *testing.T) { wantAll(t, beyond(), api.ErrArg, beyond()) }

// Each pair of budget and most: both must be within the bounds.
func TestBounds(t *testing.T) {
	h, sizes := direct(2, [2]int{0, 1}), []int{1, 1}
	numbers := []int{math.MinInt, -bound, -1, 0, 1, 2, bound - 1, bound, bound + 1, 2 * bound, math.MaxInt}
	for _, budget := range numbers {
		for _, most := range numbers {
			switch {
			case budget < 0 || budget > bound || most < 0 || most > bound:
				wantError(t, h, sizes, budget, most, api.ErrArg)
				wantError(t, api.Hier{}, nil, budget, most, api.ErrArg)
				wantError(t, h, sizes[:1], budget, most, api.ErrForm)
			case most == 0:
				wantPlan(t, h, sizes, budget, most, nil, sizes)
			default:
				wantPlan(t, h, sizes, budget, most, []int{0}, sizes)
			}
		}
	}
}

// Sizes of 1 and of MaxCode are the ends of what is right, of From and of To.
func TestSizes(t *testing.T) {
	h := direct(2, [2]int{0, 1})
	const big = api.MaxCode
	wantPlan(t, h, []int{big, big}, bound, bound, []int{0}, []int{2*big - 1, big})
	wantPlan(t, h, []int{1, big}, bound, bound, []int{0}, []int{big, big})
	wantPlan(t, h, []int{big, 1}, bound, bound, []int{0}, []int{big, 1})
	wantPlan(t, h, []int{1, 1}, bound, bound, []int{0}, []int{1, 1})
	for _, n := range []int{1, 2, big - 1, big} {
		wantPlan(t, direct(1), []int{n}, 0, 0, nil, []int{n})
	}
	for _, n := range []int{0, big + 1} {
		wantError(t, direct(1), []int{n}, 0, 0, api.ErrForm)
		wantError(t, h, []int{n, 1}, 0, 0, api.ErrForm)
		wantError(t, h, []int{1, n}, 0, 0, api.ErrForm)
	}
}
