package closure_test

import (
	"math"
	"slices"
	"testing"

	"halyard/api"
	"halyard/closure"
)

// kinds: one sound node of each.
func kinds() []api.Term {
	return []api.Term{v("a"), num(5), lam("a", num(1)), app(num(1), num(2)), add(num(1), num(2)), let("a", num(1), num(2)), cond(num(1), num(2), num(3))}
}

// inEach: the term as each of Kids of each kind, so that it stands below something.
func inEach(t api.Term) []api.Term {
	return []api.Term{
		lam("a", t), app(t, num(1)), app(num(1), t), add(t, num(1)), add(num(1), t), let("a", t, num(1)), let("a", num(1), t),
		cond(t, num(1), num(2)), cond(num(1), t, num(2)), cond(num(1), num(2), t),
	}
}

func ends() []int {
	return []int{-1, 1, 2, 7, math.MinInt, math.MaxInt, 1 << 32, -1 << 32, math.MinInt32, math.MaxInt32}
}

func TestEachKindIsSound(t *testing.T) {
	for _, k := range kinds() {
		if !closure.Sound(k) {
			t.Errorf("not sound: %s", show(k))
		}
		for _, x := range inEach(k) {
			if !closure.Sound(x) {
				t.Errorf("not sound: %s", show(x))
			}
		}
		if len(k.Kids) == 0 {
			k.Kids = []api.Term{}
			if !closure.Sound(k) {
				t.Errorf("not sound with an empty list: %s", show(k))
			}
		}
	}
	for _, n := range append(ends(), 0) {
		if !closure.Sound(num(n)) {
			t.Errorf("not sound: %d", n)
		}
	}
	for _, name := range []string{"", "x1", "\x00", "\xff\xfe", " ", "a name", "é", string(make([]byte, 100000))} {
		for _, x := range []api.Term{v(name), lam(name, num(1)), let(name, num(1), v(name))} {
			if !closure.Sound(x) {
				t.Errorf("not sound with the name %q", name)
			}
		}
	}
}

// unsoundNodes: each kind with one thing that is wrong.
func unsoundNodes() []api.Term {
	var list []api.Term
	for _, k := range kinds() {
		hasName := k.Op == api.MVar || k.Op == api.MLam || k.Op == api.MLet
		for _, name := range []string{"a", "\x00"} {
			if !hasName {
				list = append(list, api.Term{Op: k.Op, Name: name, Num: k.Num, Kids: k.Kids})
			}
		}
		for _, n := range ends() {
			if k.Op != api.MNum {
				list = append(list, api.Term{Op: k.Op, Name: k.Name, Num: n, Kids: k.Kids})
			}
		}
		for count := range 6 {
			if count != len(k.Kids) {
				list = append(list, api.Term{Op: k.Op, Name: k.Name, Num: k.Num, Kids: slices.Repeat([]api.Term{num(1)}, count)})
			}
		}
		for _, op := range []int{0, -1, 8, 9, -k.Op, k.Op + 8, k.Op + 256, k.Op + 1<<32, math.MinInt, math.MaxInt} {
			list = append(list, api.Term{Op: op, Name: k.Name, Num: k.Num, Kids: k.Kids})
		}
	}
	return append(list, api.Term{}, api.Term{Name: "x"}, api.Term{Op: api.MApp, Kids: make([]api.Term, 1<<16)})
}

func TestUnsoundNodes(t *testing.T) {
	for _, bad := range unsoundNodes() {
		wantNoTerm(t, bad)
		for _, x := range inEach(bad) {
			wantNoTerm(t, x)
		}
		if t.Failed() {
			t.Fatalf("of %s", brief(show(bad)))
		}
	}
}

// sized: a term of so many nodes, flat as far as it can be.
func sized(nodes int) api.Term { return sizedOf(nodes, num(1)) }

// sizedOf: its leaves are this one. With an odd number of nodes it is a sum of them, else there is one function in it.
func sizedOf(nodes int, leaf api.Term) api.Term {
	switch {
	case nodes == 1:
		return leaf
	case nodes == 2:
		return lam("l", leaf)
	}
	half := (nodes-1)/2 | 1
	return add(sizedOf(half, leaf), sizedOf(nodes-1-half, leaf))
}

func TestMostNodes(t *testing.T) {
	if !closure.Sound(sized(api.MaxTerm)) {
		t.Error("MaxTerm nodes are not sound")
	}
	wantNoTerm(t, sized(api.MaxTerm+1))
	wantNoTerm(t, sized(2*api.MaxTerm))
	for i, x := range []api.Term{lam("a", sized(4095)), app(sized(2000), sized(2095)), let("a", sized(1), sized(4094)), let("a", sized(4094), sized(1)), cond(sized(1000), sized(2000), sized(1095))} {
		if !closure.Sound(x) {
			t.Errorf("term %d with MaxTerm nodes is not sound", i)
		}
		last := &x.Kids[len(x.Kids)-1]
		old := *last
		*last = lam("b", old)
		wantNoTerm(t, x)
		*last = add(old, num(1))
		wantNoTerm(t, x)
	}
}

// within puts a term into so many others, in each of their ways.
func within(t api.Term, times int) []api.Term {
	around := []func(api.Term) api.Term{}
	for i := range inEach(t) {
		around = append(around, func(x api.Term) api.Term { return inEach(x)[i] })
	}
	var list []api.Term
	for _, do := range around {
		x := t
		for range times {
			x = do(x)
		}
		list = append(list, x)
	}
	mixed := t
	for i := range times {
		mixed = around[i%len(around)](mixed)
	}
	return append(list, mixed)
}

func TestMostDepth(t *testing.T) {
	for _, leaf := range []api.Term{num(1), v("a"), v("b")} {
		for i, x := range within(leaf, api.MaxDepth-1) {
			if !closure.Sound(x) {
				t.Errorf("way %d: MaxDepth on it is not sound", i)
			}
		}
		for _, x := range within(leaf, api.MaxDepth) {
			wantNoTerm(t, x)
		}
	}
	for _, x := range within(lam("x", num(1)), api.MaxDepth-1) {
		wantNoTerm(t, x)
	}
	for _, x := range within(num(1), 5000) {
		if closure.Sound(x) {
			t.Error("5000 on a way are sound")
		}
	}
}

// Terms that are the same memory again and again: sound as far as they are trees of few nodes.
func TestSharedMemory(t *testing.T) {
	x := num(1)
	for range 11 {
		x = add(x, x)
	}
	if !closure.Sound(x) || !closure.Sound(lam("a", x)) {
		t.Error("4096 nodes of shared memory are not sound")
	}
	wantNoTerm(t, lam("a", lam("a", x)))
	for range 80 {
		x = add(x, x)
	}
	wantNoTerm(t, x)
	kids := make([]api.Term, 1)
	kids[0] = api.Term{Op: api.MLam, Name: "a", Kids: kids}
	wantEndless(t, kids[0])
	for _, op := range []int{api.MApp, api.MAdd, api.MIf} {
		kids := make([]api.Term, 2)
		if op == api.MIf {
			kids = make([]api.Term, 3)
		}
		for i := range kids {
			kids[i] = api.Term{Op: op, Kids: kids}
		}
		wantEndless(t, kids[0])
	}
	last := []api.Term{num(1), {}}
	last[1] = api.Term{Op: api.MLet, Name: "a", Kids: last}
	wantEndless(t, last[1])
}

// wantEndless: of a term without an end, which cannot be shown.
func wantEndless(t *testing.T, x api.Term) {
	t.Helper()
	_, free := closure.Free(x)
	_, rename := closure.Rename(x)
	_, subst := closure.Subst(x, "a", num(1))
	_, by := closure.Subst(num(1), "a", x)
	_, convert := closure.Convert(x)
	_, _, eval := closure.Eval(x, 5)
	for _, e := range []api.Errno{free, rename, subst, by, convert, eval} {
		if e != api.ErrForm || closure.Sound(x) {
			t.Errorf("an endless term: %d", e)
		}
	}
}
