package closure_test

import (
	"math"
	"math/rand"
	"slices"
	"testing"

	"halyard/api"
	"halyard/closure"
)

// kind is what a value is: a number (nil), or a function of one kind to another.
type kind struct{ from, to *kind }

func (k *kind) is(other *kind) bool {
	if k == nil || other == nil {
		return k == other
	}
	return k.from.is(other.from) && k.to.is(other.to)
}

// bound is a name that is in sight, or a node that is.
type bound struct {
	name string
	node api.Closed
	kind *kind
}

// author writes terms and closed functions that are mostly well kinded. Of pick(n) come numbers from 0 to n - 1.
type author struct {
	pick  func(n int) int
	loops bool
	heads []head
}

func (a *author) rare(n int) bool { return a.pick(n) == n-1 }

func (a *author) kind(deep int) *kind {
	if deep == 0 || a.pick(3) > 0 {
		return nil
	}
	return &kind{a.kind(deep - 1), a.kind(deep - 1)}
}

func (a *author) name() string {
	return []string{"a", "b", "c", "", "x1", "x2", "\xff", "x10"}[a.pick(8)]
}

func (a *author) number() int {
	return []int{0, 0, 1, 2, 3, -1, 100, math.MaxInt, math.MinInt, 7}[a.pick(10)]
}

// term: of a kind, with these names in sight, the last one of a name alone.
func (a *author) term(want *kind, names []bound, deep int) api.Term {
	if a.rare(60) {
		want = a.kind(2)
	}
	var fit []string
	for i, b := range names {
		isHidden := slices.ContainsFunc(names[i+1:], func(later bound) bool { return later.name == b.name })
		if b.kind.is(want) && !isHidden {
			fit = append(fit, b.name)
		}
	}
	if len(fit) > 0 && (deep <= 0 || a.pick(3) == 0) {
		return v(fit[a.pick(len(fit))])
	}
	if deep > 0 && a.pick(4) > 0 {
		return a.inner(want, names, deep-1)
	}
	if want != nil {
		name := a.name()
		return lam(name, a.term(want.to, append(slices.Clip(names), bound{name: name, kind: want.from}), deep-1))
	}
	if a.loops && a.rare(12) {
		return []api.Term{loop(0), loop(3), loop(40), forever()}[a.pick(4)]
	}
	return num(a.number())
}

func (a *author) inner(want *kind, names []bound, deep int) api.Term {
	other, name := a.kind(2), a.name()
	inside := append(slices.Clip(names), bound{name: name, kind: other})
	switch at := a.pick(5); {
	case at == 0:
		return let(name, a.term(other, names, deep), a.term(want, inside, deep))
	case at == 1:
		return cond(a.term(nil, names, deep), a.term(want, names, deep), a.term(want, names, deep))
	case at < 4 && want == nil:
		return add(a.term(nil, names, deep), a.term(nil, names, deep))
	}
	return app(a.term(&kind{other, want}, names, deep), a.term(other, names, deep))
}

// changeTerm makes something else of a part of it, which may be right or not.
func (a *author) changeTerm(t *api.Term) {
	for len(t.Kids) > 0 && a.pick(4) > 0 {
		t = &t.Kids[a.pick(len(t.Kids))]
	}
	switch a.pick(9) {
	case 0:
		t.Op = a.pick(10) - 1
	case 1, 2:
		t.Name = a.name()
	case 3:
		t.Num = a.number()
	case 4:
		t.Kids = append(slices.Clip(t.Kids), num(1))
	case 5:
		t.Kids = t.Kids[:len(t.Kids)/2]
	case 6:
		*t = v(a.name())
	case 7:
		*t = let(a.name(), *t, v(a.name()))
	default:
		*t = lam(a.name(), *t)
	}
}

// head is what is known of a closed function ahead of its expression.
type head struct {
	kind *kind
	env  []*kind
}

// list: sound closed functions; they are made anywhere, with anything that they bring along.
func (a *author) list() []api.Body {
	a.heads = []head{{}}
	for range a.pick(5) {
		h := head{kind: &kind{a.kind(1), a.kind(1)}}
		for range a.pick(4) {
			h.env = append(h.env, a.kind(1))
		}
		a.heads = append(a.heads, h)
	}
	var list []api.Body
	for _, h := range a.heads {
		var sight []bound
		for i, k := range h.env {
			sight = append(sight, bound{node: env(i), kind: k})
		}
		want := h.kind
		if want != nil {
			sight = append(sight, bound{node: param(), kind: h.kind.from})
			want = h.kind.to
		}
		list = append(list, api.Body{Env: len(h.env), Expr: a.closed(want, sight, 0, 1+a.pick(4))})
	}
	return list
}

func (a *author) closed(want *kind, sight []bound, lets, deep int) api.Closed {
	if a.rare(60) {
		want = a.kind(1)
	}
	var fit []api.Closed
	for _, b := range sight {
		if b.kind.is(want) {
			fit = append(fit, b.node)
		}
	}
	if len(fit) > 0 && (deep <= 0 || a.pick(3) == 0) {
		return fit[a.pick(len(fit))]
	}
	if deep > 0 && a.pick(3) > 0 {
		return a.closedInner(want, sight, lets, deep-1)
	}
	if f := a.function(want); f >= 0 && deep > -3 {
		var kids []api.Closed
		for _, k := range a.heads[f].env {
			kids = append(kids, a.closed(k, sight, lets, deep-1))
		}
		return cmake(f, kids...)
	}
	return cnum(a.number())
}

// function: one of a kind, -1 is none; for any kind function 0 at times.
func (a *author) function(want *kind) int {
	var fit []int
	for f, h := range a.heads {
		if want != nil && h.kind != nil && h.kind.is(want) {
			fit = append(fit, f)
		}
	}
	switch {
	case want != nil && a.rare(20):
		return 0
	case len(fit) == 0:
		return -1
	}
	return fit[a.pick(len(fit))]
}

func (a *author) closedInner(want *kind, sight []bound, lets, deep int) api.Closed {
	other := a.kind(1)
	inside := append(slices.Clip(sight), bound{node: local(lets), kind: other})
	switch at := a.pick(5); {
	case at == 0:
		return clet(a.closed(other, sight, lets, deep), a.closed(want, inside, lets+1, deep))
	case at == 1:
		return cif(a.closed(nil, sight, lets, deep), a.closed(want, sight, lets, deep), a.closed(want, sight, lets, deep))
	case at < 4 && want == nil:
		return cadd(a.closed(nil, sight, lets, deep), a.closed(nil, sight, lets, deep))
	}
	called := &kind{other, want}
	if len(a.heads) > 1 && a.pick(4) > 0 {
		if h := a.heads[1+a.pick(len(a.heads)-1)]; h.kind.to.is(want) {
			called, other = h.kind, h.kind.from
		}
	}
	return capp(a.closed(called, sight, lets, deep), a.closed(other, sight, lets, deep))
}

// changeList makes something else of a part of it, which may be right or not.
func (a *author) changeList(list *[]api.Body) {
	if len(*list) == 0 || a.rare(12) {
		*list = append(slices.Clip(*list), body(a.pick(3), cnum(1)))
		return
	}
	b := &(*list)[a.pick(len(*list))]
	x := &b.Expr
	for len(x.Kids) > 0 && a.pick(4) > 0 {
		x = &x.Kids[a.pick(len(x.Kids))]
	}
	switch a.pick(9) {
	case 0:
		x.Op = a.pick(12) - 1
	case 1, 2, 3:
		x.Num = []int{-1, 0, 1, 2, 3, math.MaxInt, math.MinInt}[a.pick(7)]
	case 4:
		x.Kids = append(slices.Clip(x.Kids), cnum(1))
	case 5:
		x.Kids = x.Kids[:len(x.Kids)/2]
	case 6:
		b.Env = []int{-1, 0, 1, 2, math.MaxInt}[a.pick(5)]
	case 7:
		*x = []api.Closed{param(), env(0), local(0), cmake(0), cnum(0)}[a.pick(5)]
	default:
		*list = (*list)[:a.pick(len(*list))]
	}
}

// enough: of each error so many were seen at least.
func enough(t *testing.T, seen map[api.Errno]int, least int, errors ...api.Errno) {
	t.Helper()
	for _, e := range errors {
		if seen[e] < least {
			t.Errorf("too little of the error %d: %v", e, seen)
		}
	}
}

// Random terms, and such as were changed, against the second way.
func TestRandomTerms(t *testing.T) {
	a := &author{pick: rand.New(rand.NewSource(15)).Intn, loops: true}
	seen := map[api.Errno]int{}
	for range 6000 {
		x := a.term(nil, nil, 2+a.pick(5))
		seen[holdTerm(t, x, 0, 3, 300)]++
		for range 3 {
			a.changeTerm(&x)
			seen[holdTerm(t, x, a.pick(5), 200)]++
		}
		if t.Failed() {
			return
		}
	}
	enough(t, seen, 100, api.OK, api.ErrForm, api.ErrNone, api.ErrKind, api.ErrFull)
}

// Random terms that are put into one another.
func TestRandomSubsts(t *testing.T) {
	a := &author{pick: rand.New(rand.NewSource(16)).Intn}
	free := []bound{{name: "a"}, {name: "x1"}, {name: "x3"}, {name: ""}, {name: "q"}}
	seen := map[api.Errno]int{}
	for i := range 4000 {
		x, by := a.term(nil, free, 1+a.pick(6)), a.term(nil, free, a.pick(6))
		if i%40 == 0 {
			x = add(x, sizedOf(1000+a.pick(2000), v("a")))
		}
		for _, name := range []string{"a", "x1", "q", a.name()} {
			seen[holdSubst(t, x, name, by)]++
		}
		a.changeTerm(&by)
		seen[holdSubst(t, x, "x1", by)]++
		if t.Failed() {
			return
		}
	}
	enough(t, seen, 20, api.OK, api.ErrForm, api.ErrLarge)
}

// Random closed functions, those of random terms, and such as were changed.
func TestRandomLists(t *testing.T) {
	a := &author{pick: rand.New(rand.NewSource(17)).Intn, loops: true}
	seen := map[api.Errno]int{}
	for i := range 20000 {
		list := a.list()
		if i%4 == 0 {
			list, _ = closure.Convert(a.term(nil, nil, 4))
		}
		e := holdList(t, list, 100)
		if e == api.ErrForm && len(list) > 0 {
			t.Errorf("not sound: %s", showList(list))
		}
		seen[e]++
		for range 3 {
			a.changeList(&list)
			seen[holdList(t, list, a.pick(60))]++
		}
		if t.Failed() {
			return
		}
	}
	enough(t, seen, 500, api.OK, api.ErrForm, api.ErrKind, api.ErrFull)
}

// What follows from the promises: renaming changes no meaning, and no name of a kind that has been given already.
func TestRenamedIsTheSame(t *testing.T) {
	a := &author{pick: rand.New(rand.NewSource(18)).Intn, loops: true}
	for range 3000 {
		x := a.term(nil, nil, 2+a.pick(4))
		r := renameOf(t, x)
		wantRename(t, r, r)
		n, steps, e := closure.Eval(x, 200)
		if m, s, f := closure.Eval(r, 200); closure.Sound(x) && (m != n || s != steps || f != e) {
			t.Errorf("%s: %d in %d, %d, renamed %d in %d, %d", brief(show(x)), n, steps, e, m, s, f)
		}
	}
}

// P8: more fuel changes no end but ErrFull.
func TestMoreFuel(t *testing.T) {
	a := &author{pick: rand.New(rand.NewSource(19)).Intn, loops: true}
	ended := 0
	for range 500 {
		x := a.term(nil, nil, 5)
		n, steps, e := closure.Eval(x, 40)
		for fuel := range 45 {
			m, s, f := closure.Eval(x, fuel)
			switch {
			case e == api.OK && (fuel < steps) != (f == api.ErrFull), f == api.OK && (m != n || s != steps), f != e && f != api.ErrFull && e != api.ErrFull:
				t.Fatalf("%s: with 40 %d in %d, %d, with %d %d in %d, %d", brief(show(x)), n, steps, e, fuel, m, s, f)
			case f == api.ErrFull && e == api.OK:
				ended++
			}
		}
	}
	if ended < 100 {
		t.Errorf("%d ended early", ended)
	}
}

func FuzzTerms(f *testing.F) {
	for i := range 20 {
		b := make([]byte, 40+10*i)
		rand.New(rand.NewSource(int64(i))).Read(b)
		f.Add(b)
	}
	f.Fuzz(func(t *testing.T, b []byte) {
		a := &author{loops: true, pick: func(n int) int {
			if len(b) == 0 {
				return 0
			}
			first := int(b[0])
			b = b[1:]
			return first % n
		}}
		x, list := a.term(nil, nil, 5), a.list()
		by := x
		for more := true; more; more = len(b) > 0 {
			holdTerm(t, x, 100)
			holdSubst(t, x, a.name(), by)
			holdList(t, list, 100)
			a.changeTerm(&x)
			a.changeList(&list)
		}
	})
}
