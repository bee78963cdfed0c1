package closure_test

import (
	"math"
	"testing"

	"halyard/api"
	"halyard/closure"
)

func TestEval(t *testing.T) {
	wantEval(t, num(-7), 0, -7, 0)
	wantEval(t, add(num(1), num(2)), 0, 3, 0)
	wantEval(t, app(id(), num(5)), 10, 5, 1)
	wantEval(t, app(lam("a", num(5)), num(6)), 10, 5, 1)
	wantEval(t, app(app(plus(), num(1)), num(2)), 10, 3, 2)
	wantEval(t, app(app(lam("x", lam("y", v("x"))), num(1)), num(2)), 10, 1, 2)
	wantEval(t, app(app(lam("x", lam("y", v("y"))), num(1)), num(2)), 10, 2, 2)
	wantEval(t, let("a", num(4), add(v("a"), v("a"))), 0, 8, 0)
	wantEval(t, let("a", num(4), num(1)), 0, 1, 0)
	wantEval(t, let("f", id(), app(v("f"), app(v("f"), num(3)))), 10, 3, 2)
	wantEval(t, app(app(id(), id()), num(3)), 10, 3, 2)
	wantEval(t, let("", num(4), app(lam("a", add(v("a"), v(""))), num(1))), 10, 5, 1)
}

// Numbers wrap, and are what they are at their ends.
func TestEvalNumbers(t *testing.T) {
	for _, n := range append(ends(), 0) {
		wantEval(t, num(n), 0, n, 0)
		wantEval(t, app(id(), num(n)), 1, n, 1)
		wantEval(t, add(num(n), num(0)), 0, n, 0)
		wantEval(t, add(num(n), num(n)), 0, n+n, 0)
	}
	wantEval(t, add(num(math.MaxInt), num(1)), 0, math.MinInt, 0)
	wantEval(t, add(num(math.MinInt), num(-1)), 0, math.MaxInt, 0)
	wantEval(t, add(num(math.MinInt), num(math.MinInt)), 0, 0, 0)
	wantEval(t, cond(add(num(math.MinInt), num(math.MinInt)), num(1), num(2)), 0, 2, 0)
}

// MIf: the second, if the first is not 0; what is not taken is not evaluated.
func TestEvalIf(t *testing.T) {
	wrong := app(num(1), num(1))
	wantEval(t, cond(num(0), num(1), num(2)), 0, 2, 0)
	for _, n := range ends() {
		wantEval(t, cond(num(n), num(1), num(2)), 0, 1, 0)
	}
	wantEval(t, cond(num(0), forever(), num(2)), 0, 2, 0)
	wantEval(t, cond(num(1), num(1), forever()), 0, 1, 0)
	wantEval(t, cond(num(0), wrong, num(2)), 0, 2, 0)
	wantEval(t, cond(num(1), num(1), wrong), 0, 1, 0)
	wantEval(t, cond(app(id(), num(0)), num(1), app(id(), num(9))), 9, 9, 2)
	wantEval(t, add(cond(num(0), num(1), num(2)), cond(num(1), num(10), num(20))), 0, 12, 0)
	wantEval(t, cond(cond(num(0), num(0), num(1)), cond(num(0), num(3), num(4)), num(5)), 0, 4, 0)
	wantEval(t, app(cond(num(0), lam("a", num(1)), lam("a", num(2))), num(0)), 1, 2, 1)
	wantEvalError(t, cond(num(0), num(1), wrong), 9, api.ErrKind)
	wantEvalError(t, cond(num(1), forever(), num(1)), 9, api.ErrFull)
	wantEvalError(t, cond(id(), num(1), num(2)), 9, api.ErrKind)
}

// A function has what its names stood for where it was made.
func TestEvalScopes(t *testing.T) {
	f := lam("y", add(v("x"), v("y")))
	wantEval(t, let("x", num(1), let("f", f, let("x", num(10), app(v("f"), num(5))))), 10, 6, 1)
	wantEval(t, let("x", num(1), app(lam("f", let("x", num(10), app(v("f"), v("x")))), f)), 10, 11, 2)
	wantEval(t, let("x", num(4), add(v("x"), let("x", num(1), v("x")))), 10, 5, 0)
	wantEval(t, let("x", num(4), add(let("x", num(1), v("x")), v("x"))), 10, 5, 0)
	wantEval(t, let("x", num(4), let("x", add(v("x"), num(1)), v("x"))), 10, 5, 0)
	wantEval(t, app(lam("x", add(app(lam("x", v("x")), num(1)), v("x"))), num(10)), 10, 11, 2)
	wantEval(t, let("a", let("b", num(1), let("c", num(2), add(v("b"), v("c")))), add(v("a"), v("a"))), 0, 6, 0)
	// two functions of one MLam, each with its own
	both := add(app(v("f"), num(1)), app(v("g"), num(2)))
	wantEval(t, let("p", plus(), let("f", app(v("p"), num(10)), let("g", app(v("p"), num(200)), both))), 10, 213, 4)
	// a call within what a call is called with, and behind it
	twice := lam("f", lam("x", app(v("f"), app(v("f"), v("x")))))
	wantEval(t, app(app(app(twice, twice), lam("n", add(v("n"), num(1)))), num(0)), 100, 4, 11)
}

// The order in which all is evaluated is seen by which error is met first.
func TestEvalOrder(t *testing.T) {
	kind, full := app(num(1), num(1)), forever()
	wantEvalError(t, add(kind, full), 9, api.ErrKind)
	wantEvalError(t, add(full, kind), 9, api.ErrFull)
	wantEvalError(t, app(kind, full), 9, api.ErrKind)
	wantEvalError(t, app(full, kind), 9, api.ErrFull)
	wantEvalError(t, let("a", kind, full), 9, api.ErrKind)
	wantEvalError(t, let("a", full, kind), 9, api.ErrFull)
	wantEvalError(t, cond(kind, full, full), 9, api.ErrKind)
	wantEvalError(t, cond(full, kind, kind), 9, api.ErrFull)
	// MAdd: both ahead of their kinds
	wantEvalError(t, add(id(), full), 9, api.ErrFull)
	wantEvalError(t, add(id(), num(1)), 9, api.ErrKind)
	wantEvalError(t, add(num(1), id()), 9, api.ErrKind)
	wantEvalError(t, add(id(), id()), 9, api.ErrKind)
	// MApp: both ahead of the kind of the first, and that ahead of the step
	wantEvalError(t, app(num(1), full), 9, api.ErrFull)
	wantEvalError(t, app(num(1), num(2)), 0, api.ErrKind)
	wantEvalError(t, app(num(0), id()), 0, api.ErrKind)
	wantEvalError(t, app(id(), id()), 0, api.ErrFull)
	wantEvalError(t, app(lam("a", kind), num(1)), 0, api.ErrFull)
	wantEvalError(t, app(lam("a", kind), num(1)), 1, api.ErrKind)
	wantEvalError(t, app(lam("a", num(1)), kind), 0, api.ErrKind)
	wantEvalError(t, app(app(id(), num(1)), app(id(), num(2))), 2, api.ErrKind)
	wantEvalError(t, app(app(id(), num(1)), app(id(), num(2))), 1, api.ErrFull)
	// MIf: the kind of the first ahead of the others
	wantEvalError(t, cond(id(), full, full), 9, api.ErrKind)
	// MLet: the first, though nobody asks for it
	wantEvalError(t, let("a", full, num(1)), 9, api.ErrFull)
	wantEvalError(t, let("a", kind, num(1)), 9, api.ErrKind)
	wantEval(t, let("a", id(), num(1)), 0, 1, 0)
}

// ErrKind, if the value is a function; there is none beside an error that is met ahead of that.
func TestEvalToFunction(t *testing.T) {
	wantEvalError(t, id(), 0, api.ErrKind)
	wantEvalError(t, app(id(), id()), 1, api.ErrKind)
	wantEvalError(t, let("a", id(), v("a")), 0, api.ErrKind)
	wantEvalError(t, app(plus(), num(1)), 5, api.ErrKind)
	wantEvalError(t, cond(num(1), id(), num(1)), 5, api.ErrKind)
	wantEvalError(t, app(app(id(), id()), id()), 1, api.ErrFull)
	wantEval(t, cond(num(1), num(1), id()), 5, 1, 0)
}

// P15.5: ErrForm, ErrNone, ErrArg, then what is met.
func TestEvalErrors(t *testing.T) {
	for _, fuel := range []int{-1, -2, 0, 1, 100, math.MinInt, math.MaxInt} {
		for _, x := range []api.Term{v("a"), v(""), app(num(1), v("a")), let("a", v("a"), num(1)), add(lam("a", v("a")), v("a")), add(app(num(1), num(2)), v("b")), cond(num(1), num(1), v("a"))} {
			if n, s, e := closure.Eval(x, fuel); e != api.ErrNone || n != 0 || s != 0 {
				t.Errorf("Eval of %s, %d: %d in %d, %d", show(x), fuel, n, s, e)
			}
		}
		if n, s, e := closure.Eval(add(v("a"), api.Term{}), fuel); e != api.ErrForm || n != 0 || s != 0 {
			t.Errorf("Eval of what is no term, %d: %d in %d, %d", fuel, n, s, e)
		}
	}
	for _, fuel := range []int{-1, -2, math.MinInt, math.MinInt32, -1 << 32} {
		for _, x := range []api.Term{num(1), id(), app(num(1), num(2)), forever(), app(id(), num(1))} {
			wantEvalError(t, x, fuel, api.ErrArg)
		}
	}
}

// Each application is a step, and nothing else is.
func TestEvalSteps(t *testing.T) {
	for _, c := range []struct {
		x        api.Term
		n, steps int
	}{
		{app(id(), num(1)), 1, 1},
		{add(app(id(), num(1)), app(id(), num(2))), 3, 2},
		{app(id(), app(id(), app(id(), num(2)))), 2, 3},
		{app(lam("a", app(lam("b", app(lam("c", v("c")), v("b"))), v("a"))), num(4)), 4, 3},
		{let("a", app(id(), num(1)), let("b", app(id(), v("a")), add(v("a"), v("b")))), 2, 2},
		{cond(app(id(), num(0)), app(id(), num(1)), num(2)), 2, 1},
		{loop(3), 0, 8},
		{loop(50), 0, 102},
	} {
		wantEval(t, c.x, c.steps, c.n, c.steps)
		for _, fuel := range []int{c.steps + 1, 10 * c.steps, api.MaxFuel - 1, api.MaxFuel, api.MaxFuel + 1, math.MaxInt} {
			wantEval(t, c.x, fuel, c.n, c.steps)
		}
		for fuel := range c.steps {
			wantEvalError(t, c.x, fuel, api.ErrFull)
		}
	}
}

// loop counts down from n, in 2 n + 2 steps.
func loop(n int) api.Term {
	again := app(app(v("s"), v("s")), add(v("n"), num(-1)))
	f := lam("s", lam("n", cond(v("n"), again, num(0))))
	return let("f", f, app(app(v("f"), v("f")), num(n)))
}

// Just MaxFuel steps, and one more: no fuel is enough for these.
func TestEvalMostFuel(t *testing.T) {
	x := loop(api.MaxFuel/2 - 1)
	for _, fuel := range []int{api.MaxFuel, api.MaxFuel + 1, math.MaxInt} {
		wantEval(t, x, fuel, 0, api.MaxFuel)
		wantEvalError(t, app(id(), x), fuel, api.ErrFull)
		wantEvalError(t, forever(), fuel, api.ErrFull)
	}
	wantEvalError(t, x, api.MaxFuel-1, api.ErrFull)
	wantEval(t, app(id(), loop(api.MaxFuel/2-2)), api.MaxFuel, 0, api.MaxFuel-1)
}
