package closure_test

import (
	"math"
	"testing"

	"halyard/api"
	"halyard/closure"
)

func TestRun(t *testing.T) {
	wantRun(t, bodies(cnum(-7)), 0, -7, 0)
	wantRun(t, bodies(cadd(cnum(math.MaxInt), cnum(1))), 0, math.MinInt, 0)
	wantRun(t, bodies(cif(cnum(0), cnum(1), cnum(2))), 0, 2, 0)
	wantRun(t, bodies(cif(cnum(-1), cnum(1), cnum(2))), 0, 1, 0)
	wantRun(t, bodies(clet(cnum(3), cadd(local(0), local(0)))), 0, 6, 0)
	wantRun(t, bodies(capp(cmake(1), cnum(5)), body(0, param())), 1, 5, 1)
	wantRun(t, bodies(capp(cmake(1, cnum(5)), cnum(6)), body(1, env(0))), 1, 5, 1)
	wantRun(t, bodies(capp(cmake(1, cnum(5), cnum(6), cnum(7)), cnum(8)), body(3, cadd(env(2), env(1)))), 1, 13, 1)
	wantRun(t, bodies(cnum(1), body(math.MaxInt, env(math.MaxInt-1))), 0, 1, 0)
}

// What is brought along is evaluated when the function is made, whatever it is, and each in its place.
func TestRunMake(t *testing.T) {
	three := body(3, cadd(cadd(env(0), cadd(env(1), env(1))), cadd(cadd(env(2), env(2)), cadd(env(2), env(2)))))
	wantRun(t, bodies(capp(cmake(1, cnum(1), cnum(10), cnum(100)), cnum(0)), three), 1, 421, 1)
	wantRun(t, bodies(capp(cmake(1, cadd(cnum(1), cnum(2)), cif(cnum(0), cnum(5), cnum(6)), clet(cnum(7), local(0))), cnum(0)), three), 1, 3+12+28, 1)
	wantRun(t, bodies(capp(cmake(1, capp(cmake(2), cnum(1)), cnum(0), capp(cmake(2), cnum(2))), cnum(0)), three, body(0, param())), 3, 9, 3)
	wantRun(t, bodies(clet(cmake(1, capp(cmake(2), cnum(4))), cadd(capp(local(0), cnum(1)), capp(local(0), cnum(2)))), body(1, cadd(env(0), param())), body(0, param())), 9, 11, 3)
	wantRunError(t, bodies(clet(cmake(1, capp(cmake(2), cnum(4))), cnum(5)), body(1, env(0)), body(0, param())), 0, api.ErrFull)
	// a function is brought along, and called there
	wantRun(t, bodies(capp(cmake(1, cmake(2)), cnum(4)), body(1, capp(env(0), param())), body(0, cadd(param(), cnum(1)))), 9, 5, 2)
	// and one that brings along itself what it is called with
	wantRun(t, bodies(capp(capp(cmake(1), cnum(4)), cnum(5)), body(0, cmake(2, param(), param())), body(2, cadd(cadd(env(0), env(1)), param()))), 9, 13, 2)
}

// The order of what is brought along is seen by which error is met first.
func TestRunMakeOrder(t *testing.T) {
	kind, full := capp(cnum(1), cnum(1)), capp(cmake(2), cmake(2))
	for _, c := range []struct {
		whole api.Closed
		want  api.Errno
	}{
		{cmake(1, kind, full), api.ErrKind}, {cmake(1, full, kind), api.ErrFull}, {cmake(1, cnum(1), kind), api.ErrKind}, {cmake(1, cnum(1), full), api.ErrFull},
		{cmake(1, cnum(1), cnum(2)), api.ErrKind}, {clet(cmake(1, kind, cnum(1)), cnum(1)), api.ErrKind}, {capp(cmake(1, full, cnum(1)), kind), api.ErrFull}, {capp(cmake(1, kind, cnum(1)), full), api.ErrKind},
		{cadd(cmake(1, cnum(1), cnum(1)), full), api.ErrFull}, {cif(cmake(1, cnum(1), cnum(1)), full, full), api.ErrKind},
	} {
		wantRunError(t, bodies(c.whole, body(2, cnum(1)), body(0, capp(param(), param()))), 9, c.want)
	}
}

// Locals count from the outermost CLet on in whose second they stand, in each function anew.
func TestRunLocals(t *testing.T) {
	digits := func(a, b, c int) api.Closed {
		ten := func(x api.Closed) api.Closed {
			x = cadd(x, x)
			return cadd(x, cadd(x, cadd(x, cadd(x, x))))
		}
		return cadd(ten(cadd(ten(local(a)), local(b))), local(c))
	}
	for _, order := range [][3]int{{0, 1, 2}, {2, 1, 0}, {1, 1, 0}, {2, 2, 2}} {
		n := (order[0]+1)*100 + (order[1]+1)*10 + order[2] + 1
		inside := clet(cnum(1), clet(cnum(2), clet(cnum(3), digits(order[0], order[1], order[2]))))
		wantRun(t, bodies(inside), 0, n, 0)
		wantRun(t, bodies(capp(cmake(1), cnum(9)), body(0, inside)), 1, n, 1)
		wantRun(t, bodies(clet(cnum(8), capp(cmake(1), cnum(9))), body(0, inside)), 1, n, 1)
	}
	// in the first of a CLet it does not count
	wantRun(t, bodies(clet(clet(cnum(1), cadd(local(0), cnum(5))), local(0))), 0, 6, 0)
	wantRun(t, bodies(clet(cnum(1), clet(clet(cnum(20), cadd(local(0), local(1))), cadd(local(0), local(1))))), 0, 22, 0)
	// beside and behind a CLet
	wantRun(t, bodies(clet(cnum(1), cadd(clet(cnum(5), local(1)), cadd(local(0), clet(cnum(7), local(1)))))), 0, 13, 0)
	wantRun(t, bodies(capp(cmake(1), cnum(4)), body(0, cadd(clet(cnum(5), param()), param()))), 1, 8, 1)
	// the parameter from within CLets, and what is brought along
	wantRun(t, bodies(capp(cmake(1, cnum(30)), cnum(4)), body(1, clet(cnum(5), clet(cnum(6), cadd(cadd(param(), env(0)), cadd(local(0), local(1))))))), 1, 45, 1)
	// a CLet's place is another one in each call
	wantRun(t, bodies(capp(cmake(1), cnum(1)), body(0, clet(cadd(param(), cnum(1)), cif(capp(cmake(2), local(0)), local(0), cnum(0)))), body(0, clet(cnum(50), local(0)))), 9, 2, 2)
}

// Function 0 may be made too. It has no parameter, so that it does the same again.
func TestRunWholeAgain(t *testing.T) {
	wantRunError(t, bodies(capp(cmake(0), cnum(1))), 100, api.ErrFull)
	wantRunError(t, bodies(cmake(0)), 100, api.ErrKind)
	wantRun(t, bodies(clet(cmake(0), cnum(5))), 0, 5, 0)
	wantRun(t, bodies(cif(cnum(0), capp(cmake(0), cnum(1)), cnum(7))), 0, 7, 0)
	wantRunError(t, bodies(clet(cnum(3), cadd(local(0), capp(cmake(0), local(0))))), 100, api.ErrFull)
	// what stands behind never comes to function 0
	wantRun(t, bodies(capp(cmake(1, cmake(0)), cnum(1)), body(1, cif(param(), cnum(6), capp(env(0), cnum(1))))), 9, 6, 1)
}

// P15.6: ErrForm ahead of ErrArg, and that ahead of what is met.
func TestRunErrors(t *testing.T) {
	for _, fuel := range []int{-1, math.MinInt, 0, 5, math.MaxInt} {
		for _, list := range [][]api.Body{nil, {}, bodies(param()), bodies(capp(cnum(1), local(0)))} {
			wantRunError(t, list, fuel, api.ErrForm)
		}
	}
	for _, fuel := range []int{-1, -2, math.MinInt, -1 << 32} {
		for _, whole := range []api.Closed{cnum(1), cmake(0), capp(cnum(1), cnum(1)), capp(cmake(0), cnum(1))} {
			wantRunError(t, bodies(whole), fuel, api.ErrArg)
		}
	}
}

// inEachClosed: the node as each of Kids of each kind; function 2 brings along two.
func inEachClosed(x api.Closed) []api.Closed {
	one := cnum(1)
	return []api.Closed{
		capp(x, one), capp(one, x), cadd(x, one), cadd(one, x), clet(x, one), clet(one, x), cif(x, one, one), cif(one, x, one), cif(one, one, x),
		cmake(2, x, one), cmake(2, one, x),
	}
}

// three: functions 0, 1 and 2, which bring along 0, 1 and 2; the node stands in one of them, which is told.
func three(at int, x api.Closed) []api.Body {
	list := bodies(cnum(0), body(1, cnum(1)), body(2, cnum(2)))
	list[at].Expr = x
	return list
}

// wantForm: the list is sound, or it is not.
func wantForm(t *testing.T, list []api.Body, sound bool) {
	t.Helper()
	wantRunForm(t, list, sound)
	spare := append(append([]api.Body{}, list...), body(7, cnum(1)))
	if len(list) > 0 && len(list) < 10 {
		wantRunForm(t, spare, sound)
	}
}

func wantRunForm(t *testing.T, list []api.Body, sound bool) {
	t.Helper()
	_, _, e := closure.Run(list, -1)
	if want := (map[bool]api.Errno{true: api.ErrArg, false: api.ErrForm})[sound]; e != want {
		t.Errorf("Run of %s: %d, want %d", brief(showList(list)), e, want)
	}
}

// Which nodes may stand in which function.
func TestNodesInFunctions(t *testing.T) {
	for at := range 3 {
		for _, c := range []struct {
			x     api.Closed
			sound bool
		}{
			{cnum(1), true}, {cnum(math.MinInt), true}, {cnum(math.MaxInt), true}, {cnum(-1), true}, {param(), at > 0},
			{env(-1), false}, {env(0), at > 0}, {env(1), at > 1}, {env(2), false}, {env(3), false}, {env(math.MinInt), false}, {env(math.MaxInt), false}, {env(1 << 32), false},
			{local(-1), false}, {local(0), false}, {local(1), false}, {local(math.MaxInt), false}, {local(math.MinInt), false},
			{clet(cnum(1), local(0)), true}, {clet(cnum(1), local(1)), false}, {clet(cnum(1), local(-1)), false}, {clet(local(0), cnum(1)), false}, {clet(cnum(1), local(1<<32)), false},
			{clet(cnum(1), clet(local(0), local(1))), true}, {clet(cnum(1), clet(local(1), local(1))), false}, {clet(cnum(1), clet(local(0), local(2))), false},
			{clet(clet(cnum(1), local(0)), local(0)), true}, {clet(clet(cnum(1), local(1)), local(0)), false}, {clet(clet(cnum(1), local(0)), local(1)), false},
			{cadd(clet(cnum(1), local(0)), local(0)), false}, {cadd(local(0), clet(cnum(1), local(0))), false}, {clet(cnum(1), cadd(local(0), clet(cnum(1), local(1)))), true},
			{clet(cnum(1), cadd(clet(cnum(1), local(1)), local(1))), false}, {clet(cnum(1), cmake(2, local(0), clet(cnum(1), local(1)))), true}, {clet(cnum(1), cmake(2, local(0), local(1))), false},
			{cmake(0), true}, {cmake(0, cnum(1)), false}, {cmake(1), false}, {cmake(1, cnum(1)), true}, {cmake(1, cnum(1), cnum(1)), false}, {cmake(2, cnum(1)), false}, {cmake(2, cnum(1), cnum(1)), true},
			{cmake(2, cnum(1), cnum(1), cnum(1)), false}, {cmake(-1), false}, {cmake(4), false}, {cmake(math.MaxInt), false}, {cmake(math.MinInt), false}, {cmake(1 << 32), false},
			{cmake(1, param()), at > 0}, {cmake(1, env(1)), at > 1}, {cmake(2, env(0), env(2)), false},
		} {
			wantForm(t, three(at, c.x), c.sound)
			for _, x := range inEachClosed(c.x) {
				if x.Op != api.CLet {
					wantForm(t, three(at, x), c.sound)
				}
			}
		}
	}
}

// Fields that are not zero where they should be, too few and too many Kids, kinds that are none.
func TestUnsoundClosed(t *testing.T) {
	kinds := []api.Closed{param(), env(0), cnum(5), cmake(2, cnum(1), cnum(1)), capp(cnum(1), cnum(1)), cadd(cnum(1), cnum(1)), clet(cnum(1), cnum(1)), cif(cnum(1), cnum(1), cnum(1))}
	var bad []api.Closed
	for _, k := range kinds {
		wantForm(t, three(1, k), true)
		if k.Op == api.CParam || k.Op >= api.CApp {
			for _, n := range ends() {
				bad = append(bad, api.Closed{Op: k.Op, Num: n, Kids: k.Kids})
			}
		}
		for count := range 6 {
			if count != len(k.Kids) {
				bad = append(bad, api.Closed{Op: k.Op, Num: k.Num, Kids: make1(count)})
			}
		}
		for _, op := range []int{0, -1, 10, 11, -k.Op, k.Op + 16, k.Op + 256, k.Op + 1<<32, math.MinInt, math.MaxInt} {
			bad = append(bad, api.Closed{Op: op, Num: k.Num, Kids: k.Kids})
		}
	}
	bad = append(bad, api.Closed{}, api.Closed{Op: api.CApp, Kids: make([]api.Closed, 1<<16)})
	for _, x := range bad {
		for at := range 3 {
			wantForm(t, three(at, x), false)
			for _, y := range inEachClosed(x) {
				wantForm(t, three(at, y), false)
			}
		}
	}
	for _, kids := range [][]api.Closed{{cnum(1)}, make1(2)} {
		wantForm(t, bodies(clet(cnum(1), api.Closed{Op: api.CLocal, Kids: kids})), false)
	}
}

// make1: so many times the number 1.
func make1(count int) []api.Closed {
	var list []api.Closed
	for range count {
		list = append(list, cnum(1))
	}
	return list
}

func TestEnvs(t *testing.T) {
	for _, n := range []int{1, 2, -1, math.MaxInt, math.MinInt, 1 << 32} {
		wantForm(t, []api.Body{{Env: n, Expr: cnum(1)}}, false)
		wantForm(t, bodies(cnum(1), body(n, cnum(1))), n > 0)
		wantForm(t, bodies(cnum(1), body(0, cnum(1)), body(n, cnum(1))), n > 0)
		wantForm(t, bodies(cmake(1), body(n, cnum(1))), false)
		wantForm(t, bodies(cmake(1, cnum(1)), body(n, cnum(1))), n == 1)
		wantForm(t, bodies(cnum(1), body(n, env(n-1))), n > 0)
		wantForm(t, bodies(cnum(1), body(n, env(n))), false)
	}
	wantForm(t, bodies(cmake(1), body(0, cnum(1))), true)
	wantForm(t, bodies(cnum(1), body(0, env(0))), false)
}
