package closure_test

import (
	"slices"
	"strconv"
	"testing"

	"halyard/api"
	"halyard/closure"
)

// sizedClosed: an expression of so many nodes, flat as far as it can be, with a function 1 that brings along one value.
func sizedClosed(nodes int) api.Closed {
	switch nodes {
	case 1:
		return cnum(1)
	case 2:
		return cmake(1, cnum(1))
	}
	half := (nodes - 1) / 2
	return clet(sizedClosed(half), sizedClosed(nodes-1-half))
}

// All Exprs together: just MaxTerm nodes, and one more.
func TestMostClosedNodes(t *testing.T) {
	for _, first := range []int{1, 2, 1000, 4094, 4095} {
		wantRunForm(t, bodies(sizedClosed(first), body(1, sizedClosed(api.MaxTerm-first))), true)
		wantRunForm(t, bodies(sizedClosed(first), body(1, sizedClosed(api.MaxTerm+1-first))), false)
		wantRunForm(t, bodies(sizedClosed(first+1), body(1, sizedClosed(api.MaxTerm-first))), false)
	}
	kids := make1(api.MaxTerm - 2)
	wantRunForm(t, bodies(cmake(1, kids...), body(len(kids), env(len(kids)-1))), true)
	wantRun(t, bodies(capp(cmake(1, kids[2:]...), cnum(1)), body(len(kids)-2, env(len(kids)-3))), 9, 1, 1)
	kids = make1(api.MaxTerm - 1)
	wantRunForm(t, bodies(cmake(1, kids...), body(len(kids), env(len(kids)-1))), false)
}

// At most MaxTerm functions. Each has a node at least, so that there is no room for nodes then.
func TestMostFunctions(t *testing.T) {
	many := func(count int) []api.Body { return slices.Repeat([]api.Body{body(0, cnum(8))}, count) }
	wantRun(t, many(api.MaxTerm), 0, 8, 0)
	wantRunForm(t, many(api.MaxTerm+1), false)
	wantRunForm(t, many(2*api.MaxTerm), false)
	for _, count := range []int{2, 1000, api.MaxTerm - 2, api.MaxTerm - 1} {
		list := many(count)
		list[0] = body(0, capp(cmake(count-1), cnum(3)))
		list[count-1] = body(0, param())
		if count == api.MaxTerm-1 {
			wantRunForm(t, list, false)
			continue
		}
		wantRun(t, list, 1, 3, 1)
	}
}

// inClosed puts an expression into so many others, in each of their ways.
func inClosed(x api.Closed, times int) []api.Closed {
	var list []api.Closed
	for i := range inEachClosed(x) {
		y := x
		for range times {
			y = inEachClosed(y)[i]
		}
		list = append(list, y)
	}
	return list
}

func TestMostClosedDepth(t *testing.T) {
	for at := range 3 {
		for _, x := range inClosed(cnum(1), api.MaxDepth-1) {
			wantForm(t, three(at, x), true)
		}
		for _, x := range append(inClosed(cnum(1), api.MaxDepth), inClosed(cnum(1), 2000)...) {
			wantForm(t, three(at, x), false)
		}
	}
	// each of them, and not all together
	deep := inClosed(cnum(1), api.MaxDepth-1)[0]
	wantForm(t, bodies(deep, body(1, deep), body(2, deep)), true)
}

// Lists that are the same memory again and again.
func TestSharedClosedMemory(t *testing.T) {
	x := cnum(1)
	for range 11 {
		x = cadd(x, x)
	}
	wantRunForm(t, bodies(x, body(0, cnum(1))), true)
	wantRunForm(t, bodies(x, body(0, cnum(1)), body(0, cnum(1))), false)
	for range 80 {
		x = cadd(x, x)
	}
	if _, _, e := closure.Run(bodies(x), 5); e != api.ErrForm {
		t.Errorf("2 to the power of 91 nodes: %d", e)
	}
	for _, op := range []int{api.CApp, api.CAdd, api.CLet, api.CIf} {
		kids := make([]api.Closed, 2)
		if op == api.CIf {
			kids = make([]api.Closed, 3)
		}
		for i := range kids {
			kids[i] = api.Closed{Op: op, Kids: kids}
		}
		if _, _, e := closure.Run([]api.Body{{Expr: kids[0]}}, 5); e != api.ErrForm {
			t.Errorf("an endless expression: %d", e)
		}
	}
	kids := make([]api.Closed, 1)
	kids[0] = api.Closed{Op: api.CMake, Num: 1, Kids: kids}
	if _, _, e := closure.Run([]api.Body{{Expr: kids[0]}, {Env: 1, Expr: cnum(1)}}, 5); e != api.ErrForm {
		t.Errorf("an endless CMake: %d", e)
	}
}

// MaxFuel calls within one another, with nearly MaxDepth waiting in each. Nothing but fuel bounds that.
func TestDeepCalls(t *testing.T) {
	again := app(v("x"), v("x"))
	left, right, lets, conds := again, again, again, again
	for i := range 90 {
		left, right = add(left, num(1)), add(num(1), right)
		lets, conds = let("l"+strconv.Itoa(i), num(1), lets), cond(conds, num(1), num(1))
	}
	for _, inside := range []api.Term{left, right, lets, conds} {
		f := lam("x", inside)
		wantEvalError(t, app(f, f), api.MaxFuel, api.ErrFull)
	}
}

// The same with an end: each call waits for the next one, and all of them come back.
func TestDeepReturns(t *testing.T) {
	sum := add(v("n"), app(app(v("s"), v("s")), add(v("n"), num(-1))))
	for range 40 {
		sum = add(num(1), add(sum, num(-1)))
	}
	f := lam("s", lam("n", cond(v("n"), let("r", sum, v("r")), num(0))))
	from := func(n int) api.Term { return let("f", f, app(app(v("f"), v("f")), num(n))) }
	for _, n := range []int{0, 1, 9999, api.MaxFuel/2 - 1} {
		wantEval(t, from(n), api.MaxFuel, n*(n+1)/2, 2*n+2)
	}
	wantEvalError(t, from(api.MaxFuel/2), api.MaxFuel, api.ErrFull)
}

// A function that brings something along has a node more for it: a term of MaxTerm nodes may be too much for Run.
func TestTermTooLargeForRun(t *testing.T) {
	for _, c := range []struct {
		nodes int
		run   api.Errno
	}{{api.MaxTerm - 6, api.OK}, {api.MaxTerm - 5, api.ErrForm}} {
		x := app(let("a", num(3), lam("b", add(v("a"), lamless(c.nodes-2)))), num(1))
		if count(x) != c.nodes+5 {
			t.Fatalf("the test's own term has %d nodes", count(x))
		}
		list, _ := closure.Convert(x)
		if n, steps, e := closure.Eval(x, 5); e != api.OK || n != 3 || steps != 1 {
			t.Errorf("Eval: %d in %d, %d", n, steps, e)
		}
		if _, _, e := closure.Run(list, 5); e != c.run {
			t.Errorf("Run: %d, want %d", e, c.run)
		}
	}
}

// lamless: the number 0, as a term of so many nodes.
func lamless(nodes int) api.Term {
	if nodes%2 == 0 {
		return cond(num(0), num(1), sizedOf(nodes-3, num(0)))
	}
	return sizedOf(nodes, num(0))
}

// Terms of MaxTerm nodes and of MaxDepth, on all ways.
func TestLargeTerms(t *testing.T) {
	wantEval(t, let("a", num(3), sizedOf(api.MaxTerm-3, v("a"))), 0, 3*(api.MaxTerm-2)/2, 0)
	wantEvalError(t, let("a", num(3), sized(api.MaxTerm-2)), 0, api.ErrKind)
	for i, x := range within(v("a"), api.MaxDepth-2) {
		wantFree(t, x, [][]string{{}, {"a"}, {"a"}, {"a"}, {"a"}, {"a"}, {}, {"a"}, {"a"}, {"a"}, {}}[i]...)
		wantRename(t, x, renameOf(t, renameOf(t, x)))
	}
	sum := sumOf(0, 40)
	for i := range 40 {
		sum = lam("a"+strconv.Itoa(39-i), sum)
	}
	for i := range 40 {
		sum = app(sum, num(i))
	}
	wantEval(t, sum, 40, 39*20, 40)
}

// A name of very many bytes is a name as others are.
func TestLongNames(t *testing.T) {
	long := string(make([]byte, 1<<20))
	other := long + "\x01"
	x := let(long, num(1), let(other, num(20), lam("p", add(v(other), v(long)))))
	wantConvert(t, x, bodies(clet(cnum(1), clet(cnum(20), cmake(1, local(0), local(1)))), body(2, cadd(env(1), env(0)))))
	wantEval(t, app(x, num(0)), 1, 21, 1)
	wantRename(t, lam(long, app(v(long), v(other))), lam("x1", app(v("x1"), v(other))))
}
