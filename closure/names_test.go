package closure_test

import (
	"slices"
	"strconv"
	"testing"

	"halyard/api"
	"halyard/closure"
)

func TestFree(t *testing.T) {
	wantFree(t, num(1))
	wantFree(t, v("a"), "a")
	wantFree(t, v(""), "")
	wantFree(t, lam("a", v("a")))
	wantFree(t, lam("a", v("b")), "b")
	wantFree(t, lam("", v("")))
	wantFree(t, lam("a", v("")), "")
	wantFree(t, let("a", v("a"), v("a")), "a")
	wantFree(t, let("a", num(1), v("a")))
	wantFree(t, let("a", v("b"), v("c")), "b", "c")
	wantFree(t, add(v("b"), v("a")), "a", "b")
	wantFree(t, app(v("a"), v("a")), "a")
	wantFree(t, cond(v("c"), v("a"), v("b")), "a", "b", "c")
	wantFree(t, lam("b", app(v("a"), let("c", v("c"), v("b")))), "a", "c")
}

// A name is bound in what its binder is around, and not beside or behind it.
func TestFreeBesideBound(t *testing.T) {
	wantFree(t, add(lam("a", v("a")), v("a")), "a")
	wantFree(t, add(v("a"), lam("a", v("a"))), "a")
	wantFree(t, add(let("a", num(1), v("a")), v("a")), "a")
	wantFree(t, let("a", lam("a", v("a")), num(1)))
	wantFree(t, let("a", let("a", v("a"), v("a")), v("a")), "a")
	wantFree(t, let("a", num(1), let("a", v("a"), v("a"))))
	wantFree(t, lam("a", lam("a", v("a"))))
	wantFree(t, lam("a", add(lam("a", v("a")), v("a"))))
	wantFree(t, lam("a", add(lam("b", v("a")), v("b"))), "b")
	wantFree(t, app(lam("a", lam("b", v("c"))), lam("c", app(v("a"), v("b")))), "a", "b", "c")
}

// By their bytes: none is read as anything else, and a beginning is ahead of what goes on.
func TestFreeInOrder(t *testing.T) {
	names := []string{"", "\x00", "A", "B", "a", "a\x00", "aa", "ab", "b", "x1", "x10", "x2", "\x7f", "\x80", "\xc3", "é", "\xff", "\xff\x00"}
	x := num(1)
	for i := range names {
		x = add(x, add(v(names[(i*7)%len(names)]), v(names[len(names)-1-i])))
	}
	wantFree(t, x, names...)
	if !slices.IsSorted(names) {
		t.Error("the test's own names are not in order")
	}
}

func TestRename(t *testing.T) {
	wantRename(t, num(7), num(7))
	wantRename(t, v("a"), v("a"))
	wantRename(t, v("x1"), v("x1"))
	wantRename(t, lam("a", v("a")), lam("x1", v("x1")))
	wantRename(t, lam("a", v("b")), lam("x1", v("b")))
	wantRename(t, lam("", v("")), lam("x1", v("x1")))
	wantRename(t, lam("a", v("")), lam("x1", v("")))
	wantRename(t, let("a", v("a"), v("a")), let("x1", v("a"), v("x1")))
	wantRename(t, add(lam("a", v("a")), lam("a", v("a"))), add(lam("x1", v("x1")), lam("x2", v("x2"))))
	wantRename(t, cond(lam("a", num(-1)), lam("b", num(2)), lam("c", v("a"))), cond(lam("x1", num(-1)), lam("x2", num(2)), lam("x3", v("a"))))
	wantRename(t, lam("y", let("z", v("y"), app(v("z"), v("x1")))), lam("x2", let("x3", v("x2"), app(v("x3"), v("x1")))))
}

// Binders in the order in which they begin: one ahead of those in its Kids, from the left.
func TestRenameInOrder(t *testing.T) {
	wantRename(t, let("a", lam("b", v("b")), lam("c", app(v("a"), v("c")))), let("x1", lam("x2", v("x2")), lam("x3", app(v("x1"), v("x3")))))
	wantRename(t, let("a", let("b", num(1), v("b")), let("c", v("a"), v("c"))), let("x1", let("x2", num(1), v("x2")), let("x3", v("x1"), v("x3"))))
	wantRename(t, app(lam("a", lam("b", v("a"))), lam("c", lam("d", v("d")))), app(lam("x1", lam("x2", v("x1"))), lam("x3", lam("x4", v("x4")))))
	wantRename(t, cond(let("a", lam("b", num(0)), num(0)), lam("c", num(0)), num(0)), cond(let("x1", lam("x2", num(0)), num(0)), lam("x3", num(0)), num(0)))
}

// A name that is bound twice means the inner binder, and behind that the outer one again.
func TestRenameHidden(t *testing.T) {
	wantRename(t, lam("a", lam("a", v("a"))), lam("x1", lam("x2", v("x2"))))
	wantRename(t, lam("a", add(lam("a", v("a")), v("a"))), lam("x1", add(lam("x2", v("x2")), v("x1"))))
	wantRename(t, lam("a", let("a", v("a"), v("a"))), lam("x1", let("x2", v("x1"), v("x2"))))
	wantRename(t, let("a", v("a"), let("a", v("a"), v("a"))), let("x1", v("a"), let("x2", v("x1"), v("x2"))))
	wantRename(t, lam("a", lam("b", lam("a", add(v("a"), v("b"))))), lam("x1", lam("x2", lam("x3", add(v("x3"), v("x2"))))))
}

// Binders that have such names already, and names of this kind that stand free.
func TestRenameNamesOfTheKind(t *testing.T) {
	wantRename(t, lam("x1", v("x1")), lam("x1", v("x1")))
	wantRename(t, lam("x2", lam("x1", add(v("x1"), v("x2")))), lam("x1", lam("x2", add(v("x2"), v("x1")))))
	wantRename(t, lam("x1", v("x2")), lam("x1", v("x2")))
	wantRename(t, lam("a", lam("b", v("x2"))), lam("x1", lam("x3", v("x2"))))
	wantRename(t, lam("a", lam("b", lam("c", app(v("x2"), v("x1"))))), lam("x3", lam("x4", lam("x5", app(v("x2"), v("x1"))))))
	wantRename(t, lam("x1", add(v("x1"), lam("x2", num(1)))), lam("x1", add(v("x1"), lam("x2", num(1)))))
	// it stands free behind, or beside where it is bound
	wantRename(t, add(lam("x1", v("x1")), v("x1")), add(lam("x2", v("x2")), v("x1")))
	wantRename(t, let("x1", v("x1"), v("x1")), let("x2", v("x1"), v("x2")))
	// what only looks like one of them
	wantRename(t, lam("a", app(app(v("x01"), v("x")), app(v("X1"), v("x1 ")))), lam("x1", app(app(v("x01"), v("x")), app(v("X1"), v("x1 ")))))
	wantRename(t, lam("a", app(app(v("x+1"), v("x-1")), app(v("x0"), v("\x001")))), lam("x1", app(app(v("x+1"), v("x-1")), app(v("x0"), v("\x001")))))
}

// Very many binders, of which some names are left out.
func TestRenameMany(t *testing.T) {
	names := []string{"x1", "x9", "x10", "x99", "x100", "x500", "x1001"}
	x := num(0)
	for _, name := range names {
		x = add(x, v(name))
	}
	count := 0
	want := add(x, flatLams(1000, func() string {
		for count++; slices.Contains(names, "x"+strconv.Itoa(count)); {
			count++
		}
		return "x" + strconv.Itoa(count)
	}))
	wantRename(t, add(x, flatLams(1000, func() string { return "a" })), want)
	if count != 1007 {
		t.Errorf("the last one of the test's own is x%d", count)
	}
}

// flatLams: so many of them beside one another, from the left.
func flatLams(count int, name func() string) api.Term {
	if count == 1 {
		n := name()
		return lam(n, v(n))
	}
	left := flatLams(count/2, name)
	return add(left, flatLams(count-count/2, name))
}

func TestSubst(t *testing.T) {
	wantSubst(t, v("a"), "a", num(1), num(1))
	wantSubst(t, v("a"), "b", num(1), v("a"))
	wantSubst(t, num(1), "a", v("b"), num(1))
	wantSubst(t, v(""), "", num(3), num(3))
	wantSubst(t, v("a"), "", num(3), v("a"))
	wantSubst(t, add(v("a"), v("a")), "a", app(v("b"), num(1)), add(app(v("b"), num(1)), app(v("b"), num(1))))
	wantSubst(t, cond(v("a"), v("b"), v("a")), "a", num(2), cond(num(2), v("b"), num(2)))
	wantSubst(t, lam("b", add(v("a"), v("b"))), "a", num(5), lam("x1", add(num(5), v("x1"))))
	wantSubst(t, let("b", v("a"), add(v("a"), v("b"))), "a", num(5), let("x1", num(5), add(num(5), v("x1"))))
}

// Where the name is bound it stays.
func TestSubstBound(t *testing.T) {
	wantSubst(t, lam("a", v("a")), "a", num(1), lam("x1", v("x1")))
	wantSubst(t, let("a", v("a"), v("a")), "a", num(1), let("x1", num(1), v("x1")))
	wantSubst(t, add(v("a"), lam("a", v("a"))), "a", num(1), add(num(1), lam("x1", v("x1"))))
	wantSubst(t, lam("b", add(lam("a", v("a")), v("a"))), "a", v("b"), lam("x1", add(lam("x2", v("x2")), v("b"))))
	wantSubst(t, lam("x1", v("x1")), "x1", num(1), lam("x1", v("x1")))
}

// What is put in has the name itself free: that stays.
func TestSubstByItself(t *testing.T) {
	wantSubst(t, v("a"), "a", v("a"), v("a"))
	wantSubst(t, v("a"), "a", add(v("a"), num(1)), add(v("a"), num(1)))
	wantSubst(t, lam("b", v("a")), "a", lam("b", v("a")), lam("x1", lam("x2", v("a"))))
	wantSubst(t, lam("b", v("x1")), "x1", add(v("x1"), v("x1")), lam("x2", add(v("x1"), v("x1"))))
}

// Nothing that stands free in what is put in is caught.
func TestSubstNotCaught(t *testing.T) {
	wantSubst(t, lam("y", v("x")), "x", v("y"), lam("x1", v("y")))
	wantSubst(t, lam("y", app(v("x"), v("y"))), "x", v("y"), lam("x1", app(v("y"), v("x1"))))
	wantSubst(t, let("y", v("x"), v("x")), "x", v("y"), let("x1", v("y"), v("y")))
	wantSubst(t, lam("y", v("x")), "x", v("x1"), lam("x2", v("x1")))
	wantSubst(t, lam("x1", v("x")), "x", v("x1"), lam("x2", v("x1")))
	wantSubst(t, lam("x1", app(v("x"), v("x1"))), "x", app(v("x1"), v("x3")), lam("x2", app(app(v("x1"), v("x3")), v("x2"))))
	wantSubst(t, lam("y", lam("z", v("x"))), "x", app(v("y"), v("z")), lam("x1", lam("x2", app(v("y"), v("z")))))
	wantSubst(t, lam("y", v("x")), "x", lam("z", app(v("y"), v("z"))), lam("x1", lam("x2", app(v("y"), v("x2")))))
	// nor does the term catch what is bound within what is put in
	wantSubst(t, lam("y", app(v("x"), v("y"))), "x", lam("y", v("y")), lam("x1", app(lam("x2", v("x2")), v("x1"))))
	wantSubst(t, app(v("x"), lam("a", v("x"))), "x", let("b", v("a"), v("b")), app(let("x1", v("a"), v("x1")), lam("x2", let("x3", v("a"), v("x3")))))
}

// Which names are left out hangs on what stands free in the end.
func TestSubstNamesLeftOut(t *testing.T) {
	// x1 does not stand free any more
	wantSubst(t, lam("a", v("x1")), "x1", num(1), lam("x1", num(1)))
	wantSubst(t, lam("a", v("x1")), "x1", v("x2"), lam("x1", v("x2")))
	// what is not put in counts for nothing
	wantSubst(t, lam("a", v("a")), "b", v("x1"), lam("x1", v("x1")))
	wantSubst(t, lam("a", v("a")), "a", v("x1"), lam("x1", v("x1")))
	wantSubst(t, lam("a", v("x1")), "b", v("x2"), lam("x2", v("x1")))
	// what stands free in both
	wantSubst(t, lam("a", app(v("x1"), v("b"))), "b", app(v("x1"), v("x2")), lam("x3", app(v("x1"), app(v("x1"), v("x2")))))
	wantSubst(t, lam("a", app(v("x3"), v("b"))), "b", app(v("x1"), v("b")), lam("x2", app(v("x3"), app(v("x1"), v("b")))))
}

// P15.3: ErrForm ahead of ErrLarge, of either term.
func TestSubstErrors(t *testing.T) {
	large, bad := sizedOf(api.MaxTerm, v("a")), api.Term{Op: api.MNum, Name: "a"}
	wantSubstError(t, large, "a", large, api.ErrLarge)
	wantSubstError(t, large, "a", bad, api.ErrForm)
	wantSubstError(t, bad, "a", large, api.ErrForm)
	wantSubstError(t, large, "b", bad, api.ErrForm)
	wantSubstError(t, large, "a", sizedOf(api.MaxTerm+1, v("a")), api.ErrForm)
	wantSubstError(t, sizedOf(api.MaxTerm+1, v("a")), "a", num(1), api.ErrForm)
}

// Just MaxTerm nodes come of it, and one more.
func TestSubstMostNodes(t *testing.T) {
	wantSubst(t, v("a"), "a", sized(api.MaxTerm), renameOf(t, sized(api.MaxTerm)))
	for _, c := range []struct {
		x    api.Term
		most int // the largest that may be put in
	}{
		{lam("b", v("a")), 4095}, {add(v("a"), num(1)), 4094}, {add(num(1), v("a")), 4094}, {cond(v("a"), v("a"), num(1)), 2047},
		{let("a", v("a"), v("a")), 4094}, {let("b", num(1), v("a")), 4094}, {cond(v("a"), v("a"), v("a")), 1365}, {add(v("a"), lam("a", v("a"))), 4093},
		{sizedOf(4095, v("a")), 1}, {app(sized(2047), add(v("a"), v("a"))), 1023},
	} {
		got, e := closure.Subst(c.x, "a", sized(c.most))
		if e != api.OK || !closure.Sound(got) {
			t.Errorf("%s by %d nodes: %d", brief(show(c.x)), c.most, e)
		}
		wantSubstError(t, c.x, "a", sized(c.most+1), api.ErrLarge)
	}
	if x := cond(v("a"), v("a"), num(1)); count(must(closure.Subst(x, "a", sized(2047)))) != api.MaxTerm {
		t.Error("the test's own terms do not come to MaxTerm")
	}
	// the name does not stand free: nothing is put in
	for _, x := range []api.Term{sized(api.MaxTerm), lam("a", sizedOf(api.MaxTerm-1, v("a")))} {
		wantSubst(t, x, "a", sized(api.MaxTerm), renameOf(t, x))
	}
}

// must: what stands beside no error.
func must(t api.Term, e api.Errno) api.Term { return t }

func count(t api.Term) int {
	n := 1
	for _, k := range t.Kids {
		n += count(k)
	}
	return n
}

func renameOf(t *testing.T, x api.Term) api.Term {
	t.Helper()
	r, e := closure.Rename(x)
	if e != api.OK {
		t.Errorf("Rename: %d", e)
	}
	return r
}

// Just MaxDepth on a way come of it, and one more.
func TestSubstMostDepth(t *testing.T) {
	for _, above := range []int{0, 1, 40, 98, 99} {
		for i, x := range within(v("z"), above) {
			for k, by := range within(num(1), 99-above) {
				if _, e := closure.Subst(x, "z", by); e != api.OK {
					t.Errorf("ways %d, %d, %d above: %d", i, k, above, e)
				}
			}
			for _, by := range within(num(1), 100-above) {
				if above > 0 {
					wantSubstError(t, x, "z", by, api.ErrLarge)
				}
			}
		}
	}
	// not where the term is deepest, but where the name is
	deep, by := within(num(1), 98)[0], within(num(1), 60)[0]
	wantDepth(t, add(deep, v("z")), by, api.OK)
	wantDepth(t, add(v("z"), deep), by, api.OK)
	wantDepth(t, add(deep, within(v("z"), 38)[1]), by, api.OK)
	wantDepth(t, add(deep, within(v("z"), 39)[1]), by, api.ErrLarge)
	wantDepth(t, add(within(v("z"), 39)[1], v("z")), by, api.ErrLarge)
	wantDepth(t, add(v("z"), lam("z", within(v("z"), 97)[0])), by, api.OK)
	wantDepth(t, add(v("z"), let("z", within(v("z"), 39)[0], num(1))), by, api.ErrLarge)
	wantDepth(t, add(v("z"), let("z", num(1), within(v("z"), 97)[0])), by, api.OK)
}

func wantDepth(t *testing.T, x, by api.Term, want api.Errno) {
	t.Helper()
	if _, e := closure.Subst(x, "z", by); e != want {
		t.Errorf("Subst: %d, want %d", e, want)
	}
}
