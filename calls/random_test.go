package calls_test

import (
	"math/rand"
	"testing"

	"halyard/api"
	"halyard/sample"
)

// seen counts what random ones had.
type seen struct{ fine, form, large, many, self, back, none, some, one int }

func (n *seen) count(h api.Hier, e api.Errno, groups [][]int) {
	switch e {
	case api.ErrForm:
		n.form++
	case api.ErrLarge:
		n.large++
	default:
		n.fine++
	}
	for i, group := range groups {
		if len(group) > 1 {
			n.many++
		}
		if i > 0 && group[0] < groups[i-1][0] {
			n.back++
		}
	}
	for _, s := range h.Sites {
		if e != api.OK {
			break
		}
		switch list := calledBy(h, s); {
		case s.Iface < 0:
			if s.To == s.From {
				n.self++
			}
		case len(list) == 0:
			n.none++
		case len(list) == 1:
			n.one++
		default:
			n.some++
		}
	}
}

// Random ones, and such as were changed, against the second way.
func TestRandom(t *testing.T) {
	pick := rand.New(rand.NewSource(13)).Intn
	var n seen
	for range 20000 {
		h := sample.Hier(pick)
		e, groups := hold(t, h)
		if e != api.OK {
			t.Fatalf("not sound: %+v", h)
		}
		n.count(h, e, groups)
		for range 3 {
			sample.ChangeHier(pick, &h)
			e, groups := hold(t, h)
			n.count(h, e, groups)
		}
		if t.Failed() {
			return
		}
	}
	for _, count := range []int{n.fine, n.form, n.large, n.many, n.self, n.back, n.none, n.some, n.one} {
		if count < 200 {
			t.Errorf("too little of something: %+v", n)
		}
	}
}

// Many functions, with as many calls as make groups of all sizes.
func TestRandomGraphs(t *testing.T) {
	r := rand.New(rand.NewSource(14))
	for k := range 400 {
		funcs := 1 + r.Intn(40)
		h := direct(funcs)
		for range funcs * (1 + k%8) / 4 {
			h.Sites = append(h.Sites, call(r.Intn(funcs), r.Intn(funcs)))
		}
		hold(t, h)
	}
}

func FuzzCalls(f *testing.F) {
	for i := range 20 {
		b := make([]byte, 40+10*i)
		rand.New(rand.NewSource(int64(i))).Read(b)
		f.Add(b)
	}
	f.Fuzz(func(t *testing.T, b []byte) {
		pick := func(bound int) int {
			if len(b) == 0 {
				return 0
			}
			n := int(b[0]) % bound
			b = b[1:]
			return n
		}
		h := sample.Hier(pick)
		hold(t, h)
		for len(b) > 0 {
			sample.ChangeHier(pick, &h)
			hold(t, h)
		}
	})
}
