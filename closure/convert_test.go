package closure_test

import (
	"strconv"
	"testing"

	"halyard/api"
	"halyard/closure"
)

func TestConvert(t *testing.T) {
	wantConvert(t, num(-7), bodies(cnum(-7)))
	wantConvert(t, add(num(1), num(2)), bodies(cadd(cnum(1), cnum(2))))
	wantConvert(t, app(num(1), num(2)), bodies(capp(cnum(1), cnum(2))))
	wantConvert(t, cond(num(1), num(2), num(3)), bodies(cif(cnum(1), cnum(2), cnum(3))))
	wantConvert(t, let("a", num(1), v("a")), bodies(clet(cnum(1), local(0))))
	wantConvert(t, lam("a", v("a")), bodies(cmake(1), body(0, param())))
	wantConvert(t, lam("a", num(3)), bodies(cmake(1), body(0, cnum(3))))
	wantConvert(t, lam("", v("")), bodies(cmake(1), body(0, param())))
	wantConvert(t, let("", num(1), lam("a", v(""))), bodies(clet(cnum(1), cmake(1, local(0))), body(1, env(0))))
}

// Functions in the order in which they begin: one ahead of those in it, from the left.
func TestConvertFunctionsInOrder(t *testing.T) {
	one := func(n int) api.Term { return lam("a", num(n)) }
	wantConvert(t, app(lam("a", one(2)), one(3)), bodies(capp(cmake(1), cmake(3)), body(0, cmake(2)), body(0, cnum(2)), body(0, cnum(3))))
	wantConvert(t, let("a", one(1), one(2)), bodies(clet(cmake(1), cmake(2)), body(0, cnum(1)), body(0, cnum(2))))
	wantConvert(t, cond(one(1), lam("a", add(one(3), one(4))), one(5)), bodies(cif(cmake(1), cmake(2), cmake(5)),
		body(0, cnum(1)), body(0, cadd(cmake(3), cmake(4))), body(0, cnum(3)), body(0, cnum(4)), body(0, cnum(5))))
	// two that are alike are two
	wantConvert(t, add(one(1), one(1)), bodies(cadd(cmake(1), cmake(2)), body(0, cnum(1)), body(0, cnum(1))))
}

// The names of a function's surroundings: those that it uses alone, be it only for a function within it.
func TestConvertEnv(t *testing.T) {
	wantConvert(t, lam("a", lam("b", num(1))), bodies(cmake(1), body(0, cmake(2)), body(0, cnum(1))))
	wantConvert(t, lam("a", lam("b", v("a"))), bodies(cmake(1), body(0, cmake(2, param())), body(1, env(0))))
	wantConvert(t, lam("a", lam("b", lam("c", v("a")))), bodies(cmake(1), body(0, cmake(2, param())), body(1, cmake(3, env(0))), body(1, env(0))))
	wantConvert(t, lam("a", lam("b", lam("c", add(v("b"), v("a"))))),
		bodies(cmake(1), body(0, cmake(2, param())), body(1, cmake(3, env(0), param())), body(2, cadd(env(1), env(0)))))
	wantConvert(t, lam("b", lam("a", lam("c", add(v("b"), v("a"))))),
		bodies(cmake(1), body(0, cmake(2, param())), body(1, cmake(3, param(), env(0))), body(2, cadd(env(1), env(0)))))
	// once each
	wantConvert(t, lam("a", lam("b", add(v("a"), add(v("b"), v("a"))))), bodies(cmake(1), body(0, cmake(2, param())), body(1, cadd(env(0), cadd(param(), env(0))))))
}

// Places in the order of the names' bytes, wherever they are bound and used.
func TestConvertPlaces(t *testing.T) {
	names := []string{"b", "\xff", "", "é", "ab", "B", "\x80", "a", "x10", "x2"}
	places := []int{4, 9, 0, 8, 3, 1, 7, 2, 5, 6}
	inside, want := num(1), cnum(1)
	var kids [10]api.Closed
	for i, name := range names {
		inside, want = add(inside, v(name)), cadd(want, env(places[i]))
		kids[places[i]] = local(i)
	}
	x, whole := lam("p", inside), cmake(1, kids[:]...)
	for i := range names {
		x, whole = let(names[len(names)-1-i], num(i), x), clet(cnum(i), whole)
	}
	wantConvert(t, x, bodies(whole, body(10, want)))
}

// CLocal: how many MLets of the function have the MLet in their second.
func TestConvertLocals(t *testing.T) {
	two := let("a", num(1), let("b", num(2), add(v("a"), v("b"))))
	wantConvert(t, two, bodies(clet(cnum(1), clet(cnum(2), cadd(local(0), local(1))))))
	wantConvert(t, let("c", num(0), two), bodies(clet(cnum(0), clet(cnum(1), clet(cnum(2), cadd(local(1), local(2)))))))
	// in the first of another one
	wantConvert(t, let("c", two, v("c")), bodies(clet(clet(cnum(1), clet(cnum(2), cadd(local(0), local(1)))), local(0))))
	wantConvert(t, let("a", num(1), let("b", let("c", v("a"), v("c")), v("b"))), bodies(clet(cnum(1), clet(clet(local(0), local(1)), local(1)))))
	// beside another one
	wantConvert(t, add(let("a", num(1), v("a")), let("b", num(2), v("b"))), bodies(cadd(clet(cnum(1), local(0)), clet(cnum(2), local(0)))))
	wantConvert(t, let("z", num(0), cond(let("a", num(1), v("a")), let("b", num(2), v("b")), v("z"))),
		bodies(clet(cnum(0), cif(clet(cnum(1), local(1)), clet(cnum(2), local(1)), local(0)))))
}

// In a function MLets count anew.
func TestConvertLocalsOfFunctions(t *testing.T) {
	wantConvert(t, let("a", num(1), lam("b", let("c", num(2), v("c")))), bodies(clet(cnum(1), cmake(1)), body(0, clet(cnum(2), local(0)))))
	wantConvert(t, let("a", num(1), lam("b", let("c", v("b"), add(v("a"), v("c"))))),
		bodies(clet(cnum(1), cmake(1, local(0))), body(1, clet(param(), cadd(env(0), local(0))))))
	wantConvert(t, lam("a", let("b", num(1), lam("c", add(add(v("a"), v("b")), v("c"))))),
		bodies(cmake(1), body(0, clet(cnum(1), cmake(2, param(), local(0)))), body(2, cadd(cadd(env(0), env(1)), param()))))
	// behind a function those around it count again
	wantConvert(t, let("a", lam("b", let("c", num(1), v("c"))), let("d", num(2), v("a"))),
		bodies(clet(cmake(1), clet(cnum(2), local(0))), body(0, clet(cnum(1), local(0)))))
	wantConvert(t, let("a", num(1), app(lam("b", let("c", num(2), v("c"))), let("d", num(3), v("d")))),
		bodies(clet(cnum(1), capp(cmake(1), clet(cnum(3), local(1)))), body(0, clet(cnum(2), local(0)))))
}

// A name that is hidden is what the innermost binder makes it.
func TestConvertHidden(t *testing.T) {
	wantConvert(t, lam("a", lam("a", v("a"))), bodies(cmake(1), body(0, cmake(2)), body(0, param())))
	wantConvert(t, lam("a", let("a", v("a"), v("a"))), bodies(cmake(1), body(0, clet(param(), local(0)))))
	wantConvert(t, let("a", num(1), let("a", v("a"), v("a"))), bodies(clet(cnum(1), clet(local(0), local(1)))))
	wantConvert(t, let("a", num(1), lam("a", v("a"))), bodies(clet(cnum(1), cmake(1)), body(0, param())))
	wantConvert(t, let("a", num(1), add(let("a", num(2), v("a")), v("a"))), bodies(clet(cnum(1), cadd(clet(cnum(2), local(1)), local(0)))))
	// it is brought along, and hidden within
	wantConvert(t, let("a", num(1), lam("b", let("a", v("a"), v("a")))), bodies(clet(cnum(1), cmake(1, local(0))), body(1, clet(env(0), local(0)))))
	wantConvert(t, lam("a", lam("b", add(v("a"), lam("a", v("a"))))), bodies(cmake(1), body(0, cmake(2, param())), body(1, cadd(env(0), cmake(3))), body(0, param())))
	// the one that is brought along is the one of where the function stands
	wantConvert(t, lam("a", let("a", num(1), lam("b", v("a")))), bodies(cmake(1), body(0, clet(cnum(1), cmake(2, local(0)))), body(1, env(0))))
	wantConvert(t, let("a", num(1), let("a", lam("b", v("a")), v("a"))), bodies(clet(cnum(1), clet(cmake(1, local(0)), local(1))), body(1, env(0))))
}

// P15.4: ErrForm ahead of ErrNone.
func TestConvertErrors(t *testing.T) {
	for _, x := range []api.Term{v("a"), v(""), lam("a", v("b")), let("a", v("a"), num(1)), add(lam("a", v("a")), v("a")), app(num(1), cond(num(1), num(1), v("x1")))} {
		if list, e := closure.Convert(x); e != api.ErrNone || len(list) > 0 {
			t.Errorf("Convert of %s: %s, %d", show(x), showList(list), e)
		}
	}
	for _, x := range []api.Term{add(v("a"), api.Term{}), {Op: api.MVar, Name: "a", Num: 1}, sizedOf(api.MaxTerm+1, v("a"))} {
		if list, e := closure.Convert(x); e != api.ErrForm || len(list) > 0 {
			t.Errorf("Convert of %s: %s, %d", brief(show(x)), showList(list), e)
		}
	}
}

// sumOf: the names a0, a1, .. in a flat sum.
func sumOf(from, to int) api.Term {
	if from+1 == to {
		return v("a" + strconv.Itoa(from))
	}
	return add(sumOf(from, (from+to)/2), sumOf((from+to)/2, to))
}

// broad: very much is brought along, so that closed functions have far more than MaxTerm nodes.
func broad() api.Term {
	lams := sumOf(0, 32)
	for range 28 {
		lams = lam("p", lams)
	}
	x := lams
	for range 4 {
		x = let("f", lams, x)
	}
	for i := range 32 {
		x = let("a"+strconv.Itoa(i), num(i), x)
	}
	for range 28 {
		x = app(x, num(0))
	}
	return x
}

// Convert has no largest answer; that it makes more than Run takes changes nothing of the term.
func TestConvertLarge(t *testing.T) {
	x := broad()
	if !closure.Sound(x) {
		t.Fatal("the test's own term is not sound")
	}
	list, e := closure.Convert(x)
	if e != api.OK || len(list) != 1+5*28 {
		t.Fatalf("%d functions, %d", len(list), e)
	}
	for f, b := range list[1:] {
		if b.Env != 32 {
			t.Errorf("function %d: Env %d", f+1, b.Env)
		}
	}
	if n, steps, e := closure.Eval(x, 100); n != 31*16 || steps != 28 || e != api.OK {
		t.Errorf("Eval: %d in %d, %d", n, steps, e)
	}
	wantRunError(t, list, 100, api.ErrForm)
}

// MaxTerm nodes: the most functions that a term may have, and the deepest.
func TestConvertAtTheLimits(t *testing.T) {
	x := sizedOf(api.MaxTerm, lam("z", num(1)))
	for !closure.Sound(x) {
		x = x.Kids[0]
	}
	list, e := closure.Convert(x)
	if e != api.OK || len(list) < 600 {
		t.Errorf("%d functions, %d", len(list), e)
	}
	deep, want := v("a0"), env(0)
	for i := range api.MaxDepth - 1 {
		deep = lam("a"+strconv.Itoa(api.MaxDepth-2-i), deep)
	}
	list, e = closure.Convert(deep)
	if e != api.OK || len(list) != api.MaxDepth || showClosed(list[api.MaxDepth-1].Expr) != showClosed(want) {
		t.Errorf("%d functions, %d", len(list), e)
	}
}
