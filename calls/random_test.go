package calls_test

import (
	"math"
	"math/rand"
	"testing"

	"halyard/api"
)

// pickSource tells numbers below a bound.
type pickSource func(bound int) int

// letters: short names, so that they meet.
func (pick pickSource) name() string { return []string{"a", "b", "c", "d", "", "ab", "\xff"}[pick(7)] }

// names: some names, each once.
func (pick pickSource) names(most int) []string {
	var list []string
	for range pick(most + 1) {
		if name := pick.name(); !twice(append(list, name)) {
			list = append(list, name)
		}
	}
	return list
}

// hier: a sound one.
func (pick pickSource) hier() api.Hier {
	h := api.Hier{Funcs: pick(10)}
	if h.Funcs == 0 {
		return h
	}
	for range pick(6) {
		c := api.Class{Methods: pick.names(8)}
		for range c.Methods {
			c.Funcs = append(c.Funcs, pick(h.Funcs))
		}
		h.Classes = append(h.Classes, c)
	}
	for range pick(5) {
		h.Ifaces = append(h.Ifaces, pick.names(3))
	}
	for range pick(2 * h.Funcs) {
		h.Sites = append(h.Sites, pick.site(h))
	}
	return h
}

func (pick pickSource) site(h api.Hier) api.Site {
	if i := pick(2*len(h.Ifaces) + 1); i < len(h.Ifaces) && len(h.Ifaces[i]) > 0 {
		return ask(pick(h.Funcs), i, h.Ifaces[i][pick(len(h.Ifaces[i]))])
	}
	return call(pick(h.Funcs), pick(h.Funcs))
}

// number: one that is near to what is right, or at an end of the numbers.
func (pick pickSource) number() int {
	if n := pick(20); n < 15 {
		return n - 3
	}
	return []int{math.MinInt, math.MaxInt, api.MaxFuncs, api.MaxFuncs + 1, 1 << 32}[pick(5)]
}

// change makes it another one, which may be sound or not.
func (pick pickSource) change(h *api.Hier) {
	at := pick(11)
	switch {
	case at == 0 && pick(4) == 0: // not to 4096: that would be long for the second way
		h.Funcs = []int{-1, 0, api.MaxFuncs + 1, math.MinInt, math.MaxInt, 5}[pick(6)]
	case at < 4 && len(h.Classes) > 0:
		pick.changeClass(&h.Classes[pick(len(h.Classes))], at)
	case at == 4 && len(h.Ifaces) > 0:
		i := pick(len(h.Ifaces))
		h.Ifaces[i] = append(h.Ifaces[i], pick.name())
	case at == 5 && len(h.Ifaces) > 0:
		h.Ifaces = h.Ifaces[:pick(len(h.Ifaces))]
	case len(h.Sites) > 0:
		pick.changeSite(&h.Sites[pick(len(h.Sites))], at)
	}
}

func (pick pickSource) changeClass(c *api.Class, at int) {
	switch {
	case at == 1 && len(c.Funcs) > 0:
		c.Funcs[pick(len(c.Funcs))] = pick.number()
	case at == 2 && len(c.Methods) > 0:
		c.Methods[pick(len(c.Methods))] = pick.name()
	case pick(2) == 0:
		c.Methods = append(c.Methods, pick.name())
	default:
		c.Funcs = append(c.Funcs, pick(3))
	}
}

func (pick pickSource) changeSite(s *api.Site, at int) {
	switch at {
	case 6:
		s.From = pick.number()
	case 7:
		s.To = pick.number()
	case 8:
		s.Iface = pick.number()
	case 9:
		s.Method = pick.name()
	default:
		*s = ask(s.From, pick(5), pick.name())
	}
}

// seen counts what random ones had.
type seen struct{ fine, form, large, many, self, back, none, some, one int }

func (n *seen) count(h api.Hier, e api.Errno, groups [][]int) {
	switch e {
	case api.ErrForm:
		n.form++
	case api.ErrLarge:
		n.large++
	default:
		n.fine++
	}
	for i, group := range groups {
		if len(group) > 1 {
			n.many++
		}
		if i > 0 && group[0] < groups[i-1][0] {
			n.back++
		}
	}
	for _, s := range h.Sites {
		if e != api.OK {
			break
		}
		switch list := calledBy(h, s); {
		case s.Iface < 0:
			if s.To == s.From {
				n.self++
			}
		case len(list) == 0:
			n.none++
		case len(list) == 1:
			n.one++
		default:
			n.some++
		}
	}
}

// Random ones, and such as were changed, against the second way.
func TestRandom(t *testing.T) {
	r := rand.New(rand.NewSource(13))
	pick := pickSource(r.Intn)
	var n seen
	for range 20000 {
		h := pick.hier()
		e, groups := hold(t, h)
		if e != api.OK {
			t.Fatalf("not sound: %+v", h)
		}
		n.count(h, e, groups)
		for range 3 {
			pick.change(&h)
			e, groups := hold(t, h)
			n.count(h, e, groups)
		}
		if t.Failed() {
			return
		}
	}
	for _, count := range []int{n.fine, n.form, n.large, n.many, n.self, n.back, n.none, n.some, n.one} {
		if count < 200 {
			t.Errorf("too little of something: %+v", n)
		}
	}
}

// Many functions, with as many calls as make groups of all sizes.
func TestRandomGraphs(t *testing.T) {
	r := rand.New(rand.NewSource(14))
	for k := range 400 {
		funcs := 1 + r.Intn(40)
		h := direct(funcs)
		for range funcs * (1 + k%8) / 4 {
			h.Sites = append(h.Sites, call(r.Intn(funcs), r.Intn(funcs)))
		}
		hold(t, h)
	}
}

func FuzzCalls(f *testing.F) {
	for i := range 20 {
		b := make([]byte, 40+10*i)
		rand.New(rand.NewSource(int64(i))).Read(b)
		f.Add(b)
	}
	f.Fuzz(func(t *testing.T, b []byte) {
		pick := pickSource(func(bound int) int {
			if len(b) == 0 {
				return 0
			}
			n := int(b[0]) % bound
			b = b[1:]
			return n
		})
		h := pick.hier()
		hold(t, h)
		for len(b) > 0 {
			pick.change(&h)
			hold(t, h)
		}
	})
}
