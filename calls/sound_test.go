package calls_test

import (
	"math"
	"slices"
	"strings"
	"testing"

	"halyard/api"
	"halyard/calls"
)

// change is one thing that is done to a Hier.
type change func(h *api.Hier)

// faulty: what makes world ErrForm, each alone.
func faulty() map[string]change {
	list := map[string]change{
		"two methods of one name":               func(h *api.Hier) { h.Classes[0].Methods = []string{"a", "a"} },
		"two methods of one name, apart":        func(h *api.Hier) { h.Classes[3].Methods = []string{"a", "b", "a"} },
		"two methods without a name":            func(h *api.Hier) { h.Classes[4].Methods = []string{"", ""} },
		"two methods of one name, function too": func(h *api.Hier) { h.Classes[4] = class([]int{7, 7}, "d", "d") },
		"one function too few":                  func(h *api.Hier) { h.Classes[3].Funcs = []int{8, 6} },
		"one function too many":                 func(h *api.Hier) { h.Classes[3].Funcs = []int{8, 6, 3, 3} },
		"no functions":                          func(h *api.Hier) { h.Classes[1].Funcs = nil },
		"no methods":                            func(h *api.Hier) { h.Classes[0].Methods = nil },
		"a function of no method":               func(h *api.Hier) { h.Classes[2].Funcs = []int{0} },
		"an interface's name twice":             func(h *api.Hier) { h.Ifaces[0] = []string{"a", "a"} },
		"an interface's name twice, apart":      func(h *api.Hier) { h.Ifaces[6] = []string{"a", "b", "c", "a"} },
		"an interface without names, twice":     func(h *api.Hier) { h.Ifaces[2] = []string{"", ""} },
		"a direct call with a method":           func(h *api.Hier) { h.Sites[0].Method = "a" },
		"a direct call with a blank":            func(h *api.Hier) { h.Sites[1].Method = "\x00" },
		"a method that is none":                 func(h *api.Hier) { h.Sites[3].Method = "b" },
		"a method that has another case":        func(h *api.Hier) { h.Sites[3].Method = "A" },
		"a method that is longer":               func(h *api.Hier) { h.Sites[3].Method = "aa" },
		"no method":                             func(h *api.Hier) { h.Sites[3].Method = "" },
		"an interface without methods":          func(h *api.Hier) { h.Sites[3].Iface = 2 },
		"an interface without methods, no name": func(h *api.Hier) { h.Sites[3] = ask(0, 2, "") },
		"a method of a class alone":             func(h *api.Hier) { h.Sites[len(h.Sites)-1].Method = "c" },
	}
	for name, f := range map[string]int{"-1": -1, "Funcs": 9, "least": math.MinInt, "most": math.MaxInt, "1<<32": 1 << 32} {
		list["a method's function: "+name] = func(h *api.Hier) { h.Classes[0].Funcs[0] = f }
		list["a last method's function: "+name] = func(h *api.Hier) { h.Classes[3].Funcs[len(h.Classes[3].Funcs)-1] = f }
		list["From: "+name] = func(h *api.Hier) { h.Sites[0].From = f }
		list["From of an interface's: "+name] = func(h *api.Hier) { h.Sites[len(h.Sites)-1].From = f }
		list["To: "+name] = func(h *api.Hier) { h.Sites[2].To = f }
		list["To of an interface's: "+name] = func(h *api.Hier) { h.Sites[3].To = f }
	}
	for name, i := range map[string]int{"-2": -2, "Ifaces": 8, "least": math.MinInt, "most": math.MaxInt, "-1<<32-1": -1<<32 - 1} {
		list["Iface: "+name] = func(h *api.Hier) { h.Sites[3] = ask(0, i, "a") }
		list["Iface of a direct one: "+name] = func(h *api.Hier) { h.Sites[0].Iface = i }
		list["Iface of all 0: "+name] = func(h *api.Hier) { h.Sites[0] = api.Site{Iface: i} }
	}
	for _, to := range []int{1, 8, -1} {
		list["To beside an interface: "+string(rune('1'+to))] = func(h *api.Hier) { h.Sites[8].To = to }
	}
	return list
}

// P13.1: each ErrForm, alone and with each other one.
func TestForm(t *testing.T) {
	for name, do := range faulty() {
		h := world()
		do(&h)
		t.Run(name, func(t *testing.T) { wantError(t, h, api.ErrForm) })
		for other, again := range faulty() {
			g := world()
			again(&g)
			do(&g)
			if e := calls.Sound(g); e != api.ErrForm {
				t.Errorf("%s, then %s: %d", other, name, e)
			}
		}
	}
}

// Funcs below 0, with nothing else and with much else.
func TestFewFuncs(t *testing.T) {
	for _, funcs := range []int{-1, -2, math.MinInt, -api.MaxFuncs, -1 << 32} {
		wantError(t, api.Hier{Funcs: funcs}, api.ErrForm)
		h := world()
		h.Funcs = funcs
		wantError(t, h, api.ErrForm)
	}
	// without functions there may be classes and interfaces, but no method of a class and no site
	h := api.Hier{Classes: make([]api.Class, 3), Ifaces: [][]string{{"a", "b"}, nil}}
	wantSound(t, h)
	wantTargets(t, h)
	wantDevirt(t, h, h)
	wantGroups(t, h)
	h.Sites = []api.Site{ask(0, 0, "a")}
	wantError(t, h, api.ErrForm)
	h.Sites = nil
	h.Classes[2] = class([]int{0}, "a")
	wantError(t, h, api.ErrForm)
}

// What is right at the very ends.
func TestFine(t *testing.T) {
	for _, do := range []change{
		func(h *api.Hier) {},
		func(h *api.Hier) { h.Classes[0].Methods = []string{"a", "A"} },
		func(h *api.Hier) { h.Classes[0].Methods = []string{"", "\x00"} },
		func(h *api.Hier) { h.Classes[1] = h.Classes[0] },
		func(h *api.Hier) { h.Classes[3].Funcs = []int{0, 8, 8} },
		func(h *api.Hier) { h.Ifaces[1] = h.Ifaces[7] },
		func(h *api.Hier) { h.Ifaces[2] = []string{""} },
		func(h *api.Hier) { h.Sites[0] = call(8, 8) },
		func(h *api.Hier) { h.Sites[0] = call(0, 0) },
		func(h *api.Hier) { h.Sites[0] = ask(8, 7, "b") },
		func(h *api.Hier) { h.Sites = append(h.Sites, h.Sites...) },
	} {
		h := world()
		do(&h)
		wantSound(t, h)
	}
}

// bloated: what makes a Hier ErrLarge, each alone.
func bloated() map[string]change {
	return map[string]change{
		"functions":  func(h *api.Hier) { h.Funcs = api.MaxFuncs + 1 },
		"the most":   func(h *api.Hier) { h.Funcs = math.MaxInt },
		"1<<32":      func(h *api.Hier) { h.Funcs = 1 << 32 },
		"classes":    func(h *api.Hier) { h.Classes = append(h.Classes, make([]api.Class, api.MaxTypes+1-len(h.Classes))...) },
		"interfaces": func(h *api.Hier) { h.Ifaces = append(h.Ifaces, make([][]string, api.MaxTypes+1-len(h.Ifaces))...) },
		"sites": func(h *api.Hier) {
			h.Sites = append(h.Sites, slices.Repeat([]api.Site{call(0, 0)}, api.MaxTokens+1-len(h.Sites))...)
		},
	}
}

// P13.1: each ErrLarge, which stands ahead of every ErrForm.
func TestLarge(t *testing.T) {
	for name, do := range bloated() {
		h := world()
		do(&h)
		t.Run(name, func(t *testing.T) { wantError(t, h, api.ErrLarge) })
		for other, fault := range faulty() {
			g := world()
			fault(&g)
			do(&g)
			if e := calls.Sound(g); e != api.ErrLarge {
				t.Errorf("%s, and %s: %d", name, other, e)
			}
		}
		if name != "functions" && name != "the most" && name != "1<<32" {
			h.Funcs = -1
			wantError(t, h, api.ErrLarge)
		}
	}
	wantError(t, api.Hier{Funcs: -1, Sites: make([]api.Site, 3*api.MaxTokens)}, api.ErrLarge)
}

// Names are any bytes, and are told apart by them alone.
func TestNames(t *testing.T) {
	long := strings.Repeat("n", 3*api.MaxName)
	names := []string{"", "\x00", "\x00\x00", "a", "A", "a ", " a", "\xff", "\xfe", "\xc3", "\xc3\xa4", "a\xcc\x88", "\xef\xbf\xbd", long, long + "n", long + "m", "1", "-1", ".", "\n"}
	h := api.Hier{Funcs: len(names), Ifaces: [][]string{names}}
	all := class(nil, names...)
	var want [][]int
	for i, name := range names {
		h.Ifaces = append(h.Ifaces, []string{name})
		h.Classes = append(h.Classes, class([]int{i}, name))
		all.Funcs = append(all.Funcs, len(names)-1-i)
		h.Sites = append(h.Sites, ask(0, i+1, name), ask(0, 0, name))
		want = append(want, []int{i, len(names) - 1 - i}, []int{len(names) - 1 - i})
	}
	h.Classes = append(h.Classes, all)
	wantTargets(t, h, want...)
	for i := range names {
		for k := range names {
			g := api.Hier{Funcs: 1, Ifaces: [][]string{{names[i]}}, Sites: []api.Site{ask(0, 0, names[k])}}
			if e := calls.Sound(g); (e == api.OK) != (i == k) {
				t.Errorf("a site of %q with %q: %d", names[i], names[k], e)
			}
			g = api.Hier{Ifaces: [][]string{{names[i], names[k]}}}
			if e := calls.Sound(g); (e == api.ErrForm) != (i == k) {
				t.Errorf("an interface of %q and %q: %d", names[i], names[k], e)
			}
		}
	}
}

// P13.5: ErrNone, if from is no function; but an error of Sound stands ahead of it.
func TestReachOfNone(t *testing.T) {
	for _, h := range []api.Hier{{}, direct(1), world(), direct(api.MaxFuncs)} {
		for _, from := range []int{-1, -2, h.Funcs, h.Funcs + 1, api.MaxFuncs, math.MinInt, math.MaxInt, 1 << 32, -1 << 32} {
			if list, e := calls.Reach(h, from); e != api.ErrNone || len(list) > 0 {
				t.Errorf("Reach of %d functions from %d: %v, %d", h.Funcs, from, list, e)
			}
		}
	}
}
